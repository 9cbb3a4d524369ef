package shape_test

import (
	"math"
	"math/big"
	"slices"
	"testing"

	"gesso/affine"
	"gesso/api"
	"gesso/shape"
)

// The limits as the document writes them, so that a test leans on no constant of the program.
const (
	least    = -2147483648
	greatest = 2147483647
	one      = 65536
)

// wrong are numbers that may not be.
func wrong() []api.F {
	return []api.F{math.MinInt, -1 << 48, -1 << 32, least - one, least - 1, greatest + 1, greatest + one, 1 << 32, 1 << 48, math.MaxInt}
}

// edges are numbers that may be, at which something turns.
func edges() []api.F {
	return []api.F{least, least + 1, -200 * one, -one - 1, -one, -one + 1, -3, -1, 0, 1, 3, one - 1, one, one + 1, 200 * one, greatest - 1, greatest}
}

// same leaves all as it is.
func same() api.Mat {
	return api.Mat{
		one, 0, 0, 0,
		0, one, 0, 0,
		0, 0, one, 0,
	}
}

// numbered has another number at each place, so that no two can be taken for each other.
func numbered() api.Mat {
	return api.Mat{
		2 * one, -3 * one, 5*one + 1, 7,
		11, 13 * one, -17, 19 * one,
		one / 23, -29 * one, 31 * one, -37 * one,
	}
}

// great runs over in each row of any box but a small one.
func great() api.Mat {
	var m api.Mat
	for place := range m {
		m[place] = greatest
	}
	return m
}

// some is a box whose six numbers are all other ones.
func some() api.Box {
	return api.Box{Min: api.Vec{-2 * one, 3, 5 * one}, Max: api.Vec{7, 11 * one, 13 * one}}
}

// whole is the greatest box that may be.
func whole() api.Box {
	return api.Box{Min: api.Vec{least, least, least}, Max: api.Vec{greatest, greatest, greatest}}
}

// side is a plane with numbers below and above 0.
func side() api.Plane {
	return api.Plane{N: api.Vec{2 * one, -3 * one, one / 5}, D: -7}
}

// point is the box that has v alone.
func point(v api.Vec) api.Box { return api.Box{Min: v, Max: v} }

// between is the box whose corners are two vectors, whichever number is the lesser one.
func between(a, b api.Vec) api.Box {
	for place := range a {
		if a[place] > b[place] {
			a[place], b[place] = b[place], a[place]
		}
	}
	return api.Box{Min: a, Max: b}
}

// draw gives numbers by a fixed rule.
func draw() func() int32 {
	state := uint32(2463534242)
	return func() int32 {
		state ^= state << 13
		state ^= state >> 17
		state ^= state << 5
		return int32(state)
	}
}

// deal gives numbers that may be, great and small ones, each dropped by so many bits.
func deal(drop int) func() api.F {
	next, turn := draw(), 0
	return func() api.F {
		turn++
		return api.F(next() >> max(turn%31, drop))
	}
}

func dealtVec(number func() api.F) api.Vec {
	return api.Vec{number(), number(), number()}
}

func dealtMat(number func() api.F) (m api.Mat) {
	for place := range m {
		m[place] = number()
	}
	return m
}

// within is a vector in a box: of each place a number from Min's to Max's.
func within(b api.Box, next func() int32) (v api.Vec) {
	for place := range v {
		room := b.Max[place] - b.Min[place] + 1
		v[place] = b.Min[place] + api.F(uint32(next()))%room
	}
	return v
}

// corners are the eight corners of a box.
func corners(b api.Box) (l []api.Vec) {
	for i := range 8 {
		v := b.Min
		for place := range v {
			if i>>place&1 == 1 {
				v[place] = b.Max[place]
			}
		}
		l = append(l, v)
	}
	return l
}

func wide(x api.F) *big.Int { return big.NewInt(int64(x)) }

// told is what a call must answer if x came out of arguments that may be.
func told(x *big.Int) (api.F, api.Errno) {
	if x.Cmp(big.NewInt(least)) < 0 || x.Cmp(big.NewInt(greatest)) > 0 {
		return 0, api.ErrOver
	}
	return api.F(x.Int64()), api.OK
}

// wantEnds is of each place the two products, each dropped downwards, the lesser ones and last added, the greater ones and last.
func wantEnds(n api.Vec, last api.F, b api.Box) (api.F, api.F, api.Errno) {
	lo, hi := wide(last), wide(last)
	for i := range n {
		var p [2]*big.Int
		for j, x := range []api.F{b.Min[i], b.Max[i]} {
			p[j] = new(big.Int).Mul(wide(n[i]), wide(x))
			p[j].Div(p[j], big.NewInt(one)) // Euclid's: downwards
			if _, e := told(p[j]); e != api.OK {
				return 0, 0, e
			}
		}
		if p[0].Cmp(p[1]) > 0 {
			p[0], p[1] = p[1], p[0]
		}
		lo.Add(lo, p[0])
		hi.Add(hi, p[1])
	}
	a, e1 := told(lo)
	c, e2 := told(hi)
	if e1 != api.OK || e2 != api.OK {
		return 0, 0, api.ErrOver
	}
	return a, c, api.OK
}

func wantCarried(m api.Mat, b api.Box) (out api.Box, e api.Errno) {
	for r := 0; r < 3; r++ {
		out.Min[r], out.Max[r], e = wantEnds(api.Vec{m[4*r], m[4*r+1], m[4*r+2]}, m[4*r+3], b)
		if e != api.OK {
			return api.Box{}, e
		}
	}
	return out, api.OK
}

// wantDistance is the products, each dropped downwards, added; then D.
func wantDistance(p api.Plane, v api.Vec) (api.F, api.Errno) {
	dot := new(big.Int)
	for i := range v {
		x := new(big.Int).Mul(wide(v[i]), wide(p.N[i]))
		x.Div(x, big.NewInt(one))
		if _, e := told(x); e != api.OK {
			return 0, e
		}
		dot.Add(dot, x)
	}
	if _, e := told(dot); e != api.OK {
		return 0, e
	}
	return told(dot.Add(dot, wide(p.D)))
}

// hold holds an answer against the one that is wanted.
func hold[T comparable](t *testing.T, got T, gotErr api.Errno, want T, wantErr api.Errno, what ...any) {
	t.Helper()
	if got != want || gotErr != wantErr {
		t.Fatalf("%v: %v %d, want %v %d", what, got, gotErr, want, wantErr)
	}
}

// pair is both numbers of a span.
type pair struct{ lo, hi api.F }

func span(p api.Plane, b api.Box) (pair, api.Errno) {
	lo, hi, e := shape.Span(p, b)
	return pair{lo, hi}, e
}

// sameAsWide holds Carry, Span and Distance against wide numbers: of a box, and of the vector that is its Min.
func sameAsWide(t *testing.T, m api.Mat, p api.Plane, b api.Box) {
	t.Helper()
	c, e := shape.Carry(m, b)
	want, wantErr := wantCarried(m, b)
	hold(t, c, e, want, wantErr, "Carry", m, b)
	s, e := span(p, b)
	lo, hi, wantErr := wantEnds(p.N, p.D, b)
	hold(t, s, e, pair{lo, hi}, wantErr, "Span", p, b)
	d, e := shape.Distance(p, b.Min)
	far, wantErr := wantDistance(p, b.Min)
	hold(t, d, e, far, wantErr, "Distance", p, b.Min)
}

// P4.1: Right, of none, of one and of more: a box may be, if Min is above Max at no place.
func TestRight(t *testing.T) {
	if !shape.Right() || !shape.Right(nil...) {
		t.Error("no box: want true")
	}
	for place := range 3 {
		for _, x := range edges() {
			for _, y := range edges() {
				b := some()
				b.Min[place], b.Max[place] = x, y
				if got := shape.Right(b); got != (x <= y) {
					t.Errorf("%v: %t", b, got)
				}
				if got := shape.Right(some(), b, api.Box{}); got != (x <= y) {
					t.Errorf("%v among others: %t", b, got)
				}
			}
		}
	}
	if !shape.Right(whole(), some(), api.Box{}, point(api.Vec{least, 0, greatest})) {
		t.Error("want true")
	}
}

// crooked are boxes that may not be: a number of a corner may not be, at each place, or Min's is above Max's.
func crooked() (l []api.Box) {
	for _, b := range []api.Box{{}, some(), whole()} {
		for place := range 3 {
			for _, x := range wrong() {
				low, high, both := b, b, b
				low.Min[place], high.Max[place] = x, x
				both.Min[place], both.Max[place] = x, x
				l = append(l, low, high, both)
			}
			over := b
			over.Min[place] = over.Max[place] + 1
			most := b
			most.Min[place], most.Max[place] = greatest, least
			swapped := b
			swapped.Min[place], swapped.Max[place] = 1, 0
			l = append(l, over, most, swapped)
		}
	}
	return l
}

// crookedPlanes are planes that may not be, at each place of N, and by D.
func crookedPlanes() (l []api.Plane) {
	for _, p := range []api.Plane{{}, side(), {N: api.Vec{greatest, greatest, greatest}, D: greatest}} {
		for _, x := range wrong() {
			for place := range 3 {
				bad := p
				bad.N[place] = x
				l = append(l, bad)
			}
			bad := p
			bad.D = x
			l = append(l, bad)
		}
	}
	return l
}

// P4.1: a box that may not be, the first one or a later one, is found by Right, and is Join's ErrArg.
func TestWrongBoxes(t *testing.T) {
	right := []api.Box{some(), whole(), {}}
	for _, bad := range crooked() {
		for n := 1; n <= len(right); n++ {
			for i := range n {
				l := slices.Clone(right[:n])
				l[i] = bad
				if shape.Right(l...) {
					t.Errorf("Right: %v: want false", l)
				}
				got, e := shape.Join(l...)
				hold(t, got, e, api.Box{}, api.ErrArg, "Join", l)
			}
		}
	}
}

// P4.1: Plane, of none, of one and of more, at each place.
func TestPlane(t *testing.T) {
	if !shape.Plane() || !shape.Plane(nil...) {
		t.Error("no plane: want true")
	}
	for _, x := range edges() {
		for place := range 3 {
			p := side()
			p.N[place] = x
			if !shape.Plane(p) || !shape.Plane(side(), p, api.Plane{D: x}) {
				t.Errorf("%v: want true", p)
			}
		}
	}
	for _, bad := range crookedPlanes() {
		for _, l := range [][]api.Plane{{bad}, {bad, side()}, {side(), bad}, {side(), bad, {}}, {{}, side(), bad}} {
			if shape.Plane(l...) {
				t.Errorf("%v: want false", l)
			}
		}
	}
}

// P4.1: In, with the border, at each place.
func TestIn(t *testing.T) {
	for _, b := range []api.Box{some(), whole(), {}, point(api.Vec{-5, 0, greatest})} {
		for _, v := range corners(b) {
			if !shape.In(b, v) {
				t.Errorf("%v %v: want true", b, v)
			}
			for place := range 3 {
				below, above := v, v
				below[place], above[place] = b.Min[place]-1, b.Max[place]+1
				if shape.In(b, below) || shape.In(b, above) {
					t.Errorf("%v, beside %v at %d: want false", b, v, place)
				}
				inside := v
				inside[place] = (b.Min[place] + b.Max[place]) >> 1
				if !shape.In(b, inside) {
					t.Errorf("%v %v: want true", b, inside)
				}
				for _, x := range wrong() {
					outside := v
					outside[place] = x
					if shape.In(b, outside) {
						t.Errorf("%v %v: want false", b, outside)
					}
				}
			}
		}
	}
}

// P4.1: In of a box that may not be asks its numbers alone; where Min is above Max, nothing is in.
func TestInAnyBox(t *testing.T) {
	far := api.Box{Min: api.Vec{math.MinInt, math.MinInt, math.MinInt}, Max: api.Vec{math.MaxInt, math.MaxInt, math.MaxInt}}
	for _, x := range append(edges(), wrong()...) {
		for place := range 3 {
			v := api.Vec{1, 2, 3}
			v[place] = x
			if !shape.In(far, v) {
				t.Errorf("%v: want true", v)
			}
			b := far
			b.Min[place], b.Max[place] = 1, 0
			if shape.In(b, v) {
				t.Errorf("%v %v: want false", b, v)
			}
		}
	}
}

// P4.1: Join of none, of one and of more.
func TestJoin(t *testing.T) {
	got, e := shape.Join()
	hold(t, got, e, api.Box{}, api.ErrArg, "none")
	got, e = shape.Join([]api.Box{}...)
	hold(t, got, e, api.Box{}, api.ErrArg, "an empty list")
	a := api.Box{Min: api.Vec{-9, 2, 30}, Max: api.Vec{-4, 2, 70}}
	b := api.Box{Min: api.Vec{5, -8, 40}, Max: api.Vec{6, 1, 50}}
	c := api.Box{Min: api.Vec{0, 0, 0}, Max: api.Vec{0, 0, 90}}
	for i, x := range []struct {
		l    []api.Box
		want api.Box
	}{
		{[]api.Box{a}, a},
		{[]api.Box{whole()}, whole()},
		{[]api.Box{{}}, api.Box{}},
		{[]api.Box{a, a}, a},
		{[]api.Box{a, b}, api.Box{Min: api.Vec{-9, -8, 30}, Max: api.Vec{6, 2, 70}}},
		{[]api.Box{b, a}, api.Box{Min: api.Vec{-9, -8, 30}, Max: api.Vec{6, 2, 70}}},
		{[]api.Box{b, c}, api.Box{Min: api.Vec{0, -8, 0}, Max: api.Vec{6, 1, 90}}},
		{[]api.Box{a, b, c}, api.Box{Min: api.Vec{-9, -8, 0}, Max: api.Vec{6, 2, 90}}},
		{[]api.Box{c, b, a, b}, api.Box{Min: api.Vec{-9, -8, 0}, Max: api.Vec{6, 2, 90}}},
		{[]api.Box{a, whole(), c}, whole()},
		{[]api.Box{point(whole().Max), point(whole().Min)}, whole()},
	} {
		got, e := shape.Join(x.l...)
		hold(t, got, e, x.want, api.OK, i)
	}
}

// P4.1: Join has all corners, hangs on no order, and is no greater than the numbers that it is made of; of more than 1024 boxes too.
func TestJoinDealt(t *testing.T) {
	number := deal(0)
	for n := 1; n <= 2000; n = 2*n + 1 {
		var l []api.Box
		for range n {
			l = append(l, between(dealtVec(number), dealtVec(number)))
		}
		want := l[0]
		for _, b := range l {
			for place := range 3 {
				want.Min[place] = min(want.Min[place], b.Min[place])
				want.Max[place] = max(want.Max[place], b.Max[place])
			}
		}
		got, e := shape.Join(l...)
		hold(t, got, e, want, api.OK, n)
		slices.Reverse(l)
		got, e = shape.Join(l...)
		hold(t, got, e, want, api.OK, n, "turned about")
	}
}

// P4.1: Carry, of boxes that are easily worked out.
func TestCarry(t *testing.T) {
	b := api.Box{Min: api.Vec{-one, 2 * one, 5}, Max: api.Vec{one, 4 * one, 5}}
	for i, c := range []struct {
		m    api.Mat
		b    api.Box
		want api.Box
	}{
		{same(), b, b},
		{same(), whole(), whole()},
		{api.Mat{}, b, api.Box{}},
		{api.Mat{3: 7, 7: least, 11: greatest}, whole(), point(api.Vec{7, least, greatest})},
		{api.Mat{-one, 0, 0, 1, 0, -2 * one, 0, 2, 0, 0, -one, 3}, b, api.Box{Min: api.Vec{1 - one, 2 - 8*one, -2}, Max: api.Vec{1 + one, 2 - 4*one, -2}}},
		{api.Mat{0, one, one, 0, one, one, 0, 0, one, -one, 0, 0}, b, api.Box{Min: api.Vec{2*one + 5, one, -5 * one}, Max: api.Vec{4*one + 5, 5 * one, -one}}},
		{api.Mat{0: one, 1: one / 2}, point(api.Vec{-3, 3, 9}), point(api.Vec{-2, 0, 0})}, // one and a half, dropped
		{api.Mat{4: -one / 2, 5: 1}, api.Box{Min: api.Vec{-3, -1, 0}, Max: api.Vec{3, 1, 0}}, api.Box{Min: api.Vec{0, -3, 0}, Max: api.Vec{0, 1, 0}}},
	} {
		got, e := shape.Carry(c.m, c.b)
		hold(t, got, e, c.want, api.OK, i)
	}
}

// atRow is a matrix that has one row alone.
func atRow(row int, n api.Vec, last api.F) (m api.Mat) {
	m[4*row], m[4*row+1], m[4*row+2], m[4*row+3] = n[0], n[1], n[2], last
	return m
}

// P4.1: what Carry makes of a row, and Span of a plane, where products and sums run over, and where they nearly do.
func TestEndsRunOver(t *testing.T) {
	for i, c := range []struct {
		n    api.Vec
		last api.F
		b    api.Box
		want pair
		e    api.Errno
	}{
		{api.Vec{one, one, one}, 0, api.Box{Min: api.Vec{least, 0, 0}, Max: api.Vec{greatest, 0, 0}}, pair{least, greatest}, api.OK},
		{api.Vec{one, 0, 0}, 1, api.Box{Min: api.Vec{least, 0, 0}, Max: api.Vec{greatest - 1, 0, 0}}, pair{least + 1, greatest}, api.OK},
		{api.Vec{one, 0, 0}, 1, api.Box{Min: api.Vec{0, 0, 0}, Max: api.Vec{greatest, 0, 0}}, pair{}, api.ErrOver},       // the greater sum alone
		{api.Vec{0, one, 0}, -1, api.Box{Min: api.Vec{0, least, 0}, Max: api.Vec{0, 0, 0}}, pair{}, api.ErrOver},         // the lesser sum alone
		{api.Vec{one, one, 0}, -2, point(api.Vec{greatest, 2, 0}), pair{greatest, greatest}, api.OK},                     // the products alone would run over
		{api.Vec{one, one, one}, 3, point(api.Vec{least, -1, -2}), pair{least, least}, api.OK},                           // so would these
		{api.Vec{one, one, one}, 0, point(api.Vec{greatest, greatest, least}), pair{greatest - 1, greatest - 1}, api.OK}, // so would the first two
		{api.Vec{one, one, one}, 0, api.Box{Min: api.Vec{greatest, 0, least}, Max: api.Vec{greatest, 1, least}}, pair{-1, 0}, api.OK},
		{api.Vec{one, one, 0}, 0, api.Box{Min: api.Vec{0, 0, 0}, Max: api.Vec{greatest, 1, 0}}, pair{}, api.ErrOver},
		{api.Vec{-one, 0, 0}, 0, api.Box{Min: api.Vec{least, 0, 0}, Max: api.Vec{0, 0, 0}}, pair{}, api.ErrOver},       // the greater product alone, Min's
		{api.Vec{-one, 0, 0}, -1, api.Box{Min: api.Vec{least, 0, 0}, Max: api.Vec{0, 0, 0}}, pair{}, api.ErrOver},      // though a sum would take it back
		{api.Vec{0, 2 * one, 0}, 0, api.Box{Min: api.Vec{0, 0, 0}, Max: api.Vec{0, 1 << 30, 0}}, pair{}, api.ErrOver},  // Max's
		{api.Vec{0, 2 * one, 0}, -1, api.Box{Min: api.Vec{0, 0, 0}, Max: api.Vec{0, 1 << 30, 0}}, pair{}, api.ErrOver}, // so here
		{api.Vec{0, 2 * one, 0}, 0, api.Box{Min: api.Vec{0, -1 << 30, 0}, Max: api.Vec{0, 1<<30 - 1, 0}}, pair{least, greatest - 1}, api.OK},
		{api.Vec{0, 0, least}, 0, api.Box{Min: api.Vec{0, 0, -one + 1}, Max: api.Vec{0, 0, one}}, pair{least, greatest + 1 - one/2}, api.OK},
		{api.Vec{0, 0, least}, 0, api.Box{Min: api.Vec{0, 0, -one}, Max: api.Vec{0, 0, 0}}, pair{}, api.ErrOver},
		{api.Vec{least, least, least}, least, whole(), pair{}, api.ErrOver},
		{api.Vec{greatest, greatest, greatest}, greatest, whole(), pair{}, api.ErrOver},
		{api.Vec{}, least, whole(), pair{least, least}, api.OK},
		{api.Vec{}, greatest, whole(), pair{greatest, greatest}, api.OK},
	} {
		got, e := span(api.Plane{N: c.n, D: c.last}, c.b)
		hold(t, got, e, c.want, c.e, "Span", i)
		for row := range 3 {
			var want api.Box
			want.Min[row], want.Max[row] = c.want.lo, c.want.hi
			got, e := shape.Carry(atRow(row, c.n, c.last), c.b)
			hold(t, got, e, want, c.e, "Carry", i, row)
		}
	}
}

// P4.1, rule 2: where one row runs over, nothing is answered of the others.
func TestNothingBesideErrOver(t *testing.T) {
	for row := range 3 {
		m := numbered()
		m[4*row], m[4*row+1], m[4*row+2], m[4*row+3] = one, 0, 0, greatest
		got, e := shape.Carry(m, point(api.Vec{1, 1, 1}))
		hold(t, got, e, api.Box{}, api.ErrOver, m)
		m[4*row], m[4*row+3] = greatest, 0
		got, e = shape.Carry(m, point(api.Vec{2 * one, 0, 0}))
		hold(t, got, e, api.Box{}, api.ErrOver, m)
	}
}

// P4.1: Distance is the dot, and then D: a dot that runs over isn't taken back by D.
func TestDistance(t *testing.T) {
	for i, c := range []struct {
		n    api.Vec
		d    api.F
		v    api.Vec
		want api.F
		e    api.Errno
	}{
		{api.Vec{one, 2 * one, 3 * one}, 9, api.Vec{10, 20, 30}, 149, api.OK},
		{api.Vec{one, -2 * one, -3 * one}, -9, api.Vec{10, 20, 30}, -129, api.OK},
		{api.Vec{one / 2, one / 2, one / 2}, 0, api.Vec{-1, 1, 3}, 0, api.OK}, // each one dropped downwards: -1, 0, 1
		{api.Vec{}, least, api.Vec{least, least, greatest}, least, api.OK},
		{api.Vec{}, greatest, api.Vec{}, greatest, api.OK},
		{api.Vec{0, 0, one}, 0, api.Vec{0, 0, greatest}, greatest, api.OK},
		{api.Vec{0, one, 0}, 0, api.Vec{0, least, 0}, least, api.OK},
		{api.Vec{one, 0, 0}, least, api.Vec{greatest, 0, 0}, -1, api.OK},
		{api.Vec{one, one, one}, 0, api.Vec{greatest, greatest, least}, greatest - 1, api.OK}, // only the dot's end counts
		{api.Vec{one, 0, 0}, 1, api.Vec{greatest, 0, 0}, 0, api.ErrOver},
		{api.Vec{0, one, 0}, -1, api.Vec{0, least, 0}, 0, api.ErrOver},
		{api.Vec{one, one, 0}, -1, api.Vec{greatest, 1, 0}, 0, api.ErrOver}, // the dot alone
		{api.Vec{one, one, 0}, 1, api.Vec{least, -1, 0}, 0, api.ErrOver},
		{api.Vec{0, 0, -one}, -1, api.Vec{0, 0, least}, 0, api.ErrOver}, // a product alone
		{api.Vec{200 * one, -200 * one, 0}, 0, api.Vec{200 * one, 200 * one, 0}, 0, api.ErrOver},
	} {
		got, e := shape.Distance(api.Plane{N: c.n, D: c.d}, c.v)
		hold(t, got, e, c.want, c.e, i)
	}
}

// P4.1: Carry, Span and Distance at all pairs of the edges, at each place, with numbers below and above 0.
func TestPlacesAtEdges(t *testing.T) {
	for _, x := range edges() {
		for _, y := range edges() {
			for place := range 12 {
				m, p := numbered(), side()
				m[place] = x
				if place%4 == 3 {
					p.D = x
				} else {
					p.N[place%4] = x
				}
				for at := range 3 {
					b := some()
					b.Min[at], b.Max[at] = min(b.Min[at], y), max(b.Max[at], y)
					sameAsWide(t, m, p, b)
					b = point(b.Max)
					b.Min[at], b.Max[at] = min(x, y), max(x, y)
					sameAsWide(t, m, p, b)
					sameAsWide(t, m, p, point(api.Vec{y, x, y}))
				}
			}
		}
	}
}

// P4.1: Carry, Span and Distance of great and small numbers; some fit, some run over.
func TestDealtNumbers(t *testing.T) {
	for _, drop := range []int{0, 3, 6} {
		number, fit, over := deal(drop), 0, 0
		for range 3000 {
			m, p := dealtMat(number), api.Plane{N: dealtVec(number), D: number()}
			b := between(dealtVec(number), dealtVec(number))
			sameAsWide(t, m, p, b)
			if _, e := shape.Carry(m, b); e == api.OK {
				fit++
			} else {
				over++
			}
		}
		if fit < 20 || over < 20 {
			t.Errorf("dropped by %d: %d fit, %d run over", drop, fit, over)
		}
	}
}

// P4.1: ErrArg of Carry, ahead of ErrOver, at each place of a matrix, and of a box.
func TestCarryWrong(t *testing.T) {
	for _, b := range []api.Box{{}, some(), whole()} {
		for _, m := range []api.Mat{{}, same(), numbered(), great()} {
			for place := range 12 {
				for _, x := range wrong() {
					bad := m
					bad[place] = x
					got, e := shape.Carry(bad, b)
					hold(t, got, e, api.Box{}, api.ErrArg, bad, b)
				}
			}
		}
	}
	for _, b := range crooked() {
		for _, m := range []api.Mat{{}, same(), numbered(), great(), {0: math.MinInt}} {
			got, e := shape.Carry(m, b)
			hold(t, got, e, api.Box{}, api.ErrArg, m, b)
		}
	}
}

// P4.1: ErrArg of Span and of Distance, ahead of ErrOver, at each place of a plane, of a box, and of a vector.
func TestPlaneCallsWrong(t *testing.T) {
	steep := api.Plane{N: api.Vec{greatest, least, greatest}, D: greatest}
	for _, p := range crookedPlanes() {
		for _, b := range []api.Box{{}, some(), whole(), {Min: api.Vec{1}}} {
			got, e := span(p, b)
			hold(t, got, e, pair{}, api.ErrArg, "Span", p, b)
			d, e := shape.Distance(p, b.Min)
			hold(t, d, e, 0, api.ErrArg, "Distance", p, b.Min)
		}
	}
	for _, p := range []api.Plane{{}, side(), steep} {
		for _, b := range crooked() {
			got, e := span(p, b)
			hold(t, got, e, pair{}, api.ErrArg, "Span", p, b)
		}
		for place := range 3 {
			for _, x := range wrong() {
				for _, v := range []api.Vec{{}, {1, 2, 3}, {greatest, greatest, greatest}} {
					v[place] = x
					d, e := shape.Distance(p, v)
					hold(t, d, e, 0, api.ErrArg, "Distance", p, v)
				}
			}
		}
	}
}

// holdInside holds P4.2 of one vector in a box, as far as nothing runs over, and tells which of both could be held.
func holdInside(t *testing.T, m api.Mat, p api.Plane, b api.Box, v api.Vec) (carried, spanned bool) {
	t.Helper()
	if !shape.In(b, v) {
		t.Fatalf("%v isn't in %v", v, b)
	}
	c, e1 := shape.Carry(m, b)
	w, e2 := affine.Apply(m, v)
	carried = e1 == api.OK
	// What is between two numbers that may be may be: where the box is carried, no vector in it runs over.
	if carried && (e2 != api.OK || !shape.In(c, w) || !shape.Right(c)) {
		t.Fatalf("%v carries %v to %v, and %v to %v %d", m, b, c, v, w, e2)
	}
	lo, hi, e1 := shape.Span(p, b)
	d, e2 := shape.Distance(p, v)
	spanned = e1 == api.OK && e2 == api.OK
	if spanned && (d < lo || d > hi) {
		t.Fatalf("%v spans %v from %d to %d, and %v is at %d", p, b, lo, hi, v, d)
	}
	return carried, spanned
}

// P4.2: a vector in a box is, applied, in the box that is carried, and its distance in the span.
func TestInside(t *testing.T) {
	for _, drop := range []int{0, 8, 12} {
		number, next, carried, spanned := deal(drop), draw(), 0, 0
		for range 2000 {
			m, p := dealtMat(number), api.Plane{N: dealtVec(number), D: number()}
			b := between(dealtVec(number), dealtVec(number))
			for _, v := range append(corners(b), within(b, next), within(b, next), within(b, next)) {
				c, s := holdInside(t, m, p, b, v)
				if c {
					carried++
				}
				if s {
					spanned++
				}
			}
		}
		if carried < 100 || spanned < 100 {
			t.Errorf("dropped by %d: only %d carried, %d spanned", drop, carried, spanned)
		}
	}
}

// P4.2: of a small box each vector that is in it.
func TestInsideSmall(t *testing.T) {
	b := api.Box{Min: api.Vec{-2, -1, 0}, Max: api.Vec{1, 1, 3}}
	number := deal(10)
	for range 200 {
		m, p := dealtMat(number), api.Plane{N: dealtVec(number), D: number()}
		for x := b.Min[0]; x <= b.Max[0]; x++ {
			for y := b.Min[1]; y <= b.Max[1]; y++ {
				for z := b.Min[2]; z <= b.Max[2]; z++ {
					c, s := holdInside(t, m, p, b, api.Vec{x, y, z})
					if !c || !s {
						t.Fatalf("%v %v %v: runs over", m, p, api.Vec{x, y, z})
					}
				}
			}
		}
	}
}

// P4.2, P4.1: of a box whose corners are the same, what is carried is the vector applied, and the span is its distance.
func TestPoints(t *testing.T) {
	number, fit := deal(9), 0
	for range 2000 {
		m, v := dealtMat(number), dealtVec(number)
		c, e := shape.Carry(m, point(v))
		w, wantErr := affine.Apply(m, v)
		hold(t, c, e, point(w), wantErr, m, v)
		p := api.Plane{N: dealtVec(number), D: number()}
		if d, e := shape.Distance(p, v); e == api.OK {
			fit++
			s, e := span(p, point(v))
			hold(t, s, e, pair{d, d}, api.OK, p, v)
		}
	}
	if fit < 100 {
		t.Errorf("only %d fit", fit)
	}
}

// answers is what all calls answer of two boxes, a matrix, a plane and a vector.
type answers struct {
	right, plane, in                     bool
	joined, carried                      api.Box
	distance                             api.F
	span                                 pair
	joinErr, carryErr, distErr, spanErrs api.Errno
}

func ask(a, b api.Box, m api.Mat, p api.Plane, v api.Vec) (r answers) {
	r.right, r.plane, r.in = shape.Right(a, b), shape.Plane(p, side()), shape.In(a, v)
	r.joined, r.joinErr = shape.Join(a, b)
	r.carried, r.carryErr = shape.Carry(m, a)
	r.distance, r.distErr = shape.Distance(p, v)
	r.span, r.spanErrs = span(p, a)
	return r
}

// P1, P2: the calls end at all arguments, and answer the same the next time.
func TestSameAgain(t *testing.T) {
	all := append(edges(), wrong()...)
	for i, x := range all {
		for j, y := range all {
			a, b, m, p, v := some(), some(), numbered(), side(), api.Vec{x, 1, y}
			a.Min[i%3], a.Max[j%3], b.Max[i%3] = x, y, y
			m[j%12], p.N[i%3], p.D = y, x, y
			first := ask(a, b, m, p, v)
			ask(b, a, great(), api.Plane{N: v, D: x}, api.Vec{y, x, x})
			if again := ask(a, b, m, p, v); again != first {
				t.Fatalf("%v %v %v %v %v: %v, then %v", a, b, m, p, v, first, again)
			}
		}
	}
}

// Rule 4: a list that is handed in is not written into, and what lies behind its length is not read.
func TestListsAreLeftAlone(t *testing.T) {
	boxes := []api.Box{some(), {}, point(api.Vec{1, 2, 3}), {Min: api.Vec{1}}, whole()}
	planes := []api.Plane{side(), {}, {D: greatest + 1}, {D: math.MinInt}}
	boxesBefore, planesBefore := slices.Clone(boxes), slices.Clone(planes)
	if !shape.Right(boxes[:3]...) || !shape.Plane(planes[:2]...) {
		t.Error("read behind the list")
	}
	want := api.Box{Min: api.Vec{-2 * one, 0, 0}, Max: api.Vec{7, 11 * one, 13 * one}}
	got, e := shape.Join(boxes[:3]...)
	hold(t, got, e, want, api.OK, "Join")
	shape.Join(boxes...)
	shape.Right(boxes...)
	shape.Plane(planes...)
	if !slices.Equal(boxes, boxesBefore) || !slices.Equal(planes, planesBefore) {
		t.Errorf("written into: %v %v", boxes, planes)
	}
}
