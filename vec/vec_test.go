package vec_test

import (
	"math"
	"math/big"
	"slices"
	"testing"

	"gesso/api"
	"gesso/vec"
)

// The limits as the document writes them, so that a test leans on no constant of the program.
const (
	least    = -2147483648
	greatest = 2147483647
	one      = 65536
)

// wrong are numbers that may not be.
func wrong() []api.F {
	return []api.F{math.MinInt, -1 << 48, -1 << 32, least - one, least - 1, greatest + 1, greatest + one, 1 << 32, 1 << 48, math.MaxInt}
}

// edges are numbers that may be, at which something turns.
func edges() []api.F {
	return []api.F{least, least + 1, -200 * one, -one - 1, -one, -one + 1, -3, -1, 0, 1, 3, one - 1, one, one + 1, 200 * one, greatest - 1, greatest}
}

// pairs are all pairs of the edges.
func pairs() [][2]api.F {
	var l [][2]api.F
	for _, a := range edges() {
		for _, b := range edges() {
			l = append(l, [2]api.F{a, b})
		}
	}
	return l
}

// dealer gives numbers that may be, great and small ones, by a fixed rule.
func dealer() func() api.F {
	state, turn := uint32(2463534242), 0
	return func() api.F {
		state ^= state << 13
		state ^= state >> 17
		state ^= state << 5
		turn++
		return api.F(int32(state) >> (turn % 31))
	}
}

// dealt are so many vectors that may be.
func dealt(n int) []api.Vec {
	next := dealer()
	l := make([]api.Vec, n)
	for i := range l {
		l[i] = api.Vec{next(), next(), next()}
	}
	return l
}

// ways are the orders of three.
func ways() [][3]int {
	return [][3]int{{0, 1, 2}, {0, 2, 1}, {1, 0, 2}, {1, 2, 0}, {2, 0, 1}, {2, 1, 0}}
}

func ordered(v api.Vec, way [3]int) api.Vec {
	return api.Vec{v[way[0]], v[way[1]], v[way[2]]}
}

func wide(x api.F) *big.Int { return big.NewInt(int64(x)) }

// told is what a call must answer if x came out of arguments that may be.
func told(x *big.Int) (api.F, api.Errno) {
	if x.Cmp(big.NewInt(least)) < 0 || x.Cmp(big.NewInt(greatest)) > 0 {
		return 0, api.ErrOver
	}
	return api.F(x.Int64()), api.OK
}

// toldAll is told of three.
func toldAll(l [3]*big.Int) (api.Vec, api.Errno) {
	var v api.Vec
	for i, x := range l {
		n, e := told(x)
		if e != api.OK {
			return api.Vec{}, e
		}
		v[i] = n
	}
	return v, api.OK
}

// product is what Mul drops downwards to, however great it is.
func product(a, b api.F) *big.Int {
	return new(big.Int).Div(new(big.Int).Mul(wide(a), wide(b)), big.NewInt(one)) // Euclid's: downwards
}

func wantSum(l ...api.Vec) (api.Vec, api.Errno) {
	sums := [3]*big.Int{new(big.Int), new(big.Int), new(big.Int)}
	for _, v := range l {
		for i, x := range v {
			sums[i].Add(sums[i], wide(x))
		}
	}
	return toldAll(sums)
}

func wantDifference(a, b api.Vec) (api.Vec, api.Errno) {
	var l [3]*big.Int
	for i := range l {
		l[i] = new(big.Int).Sub(wide(a[i]), wide(b[i]))
	}
	return toldAll(l)
}

func wantScaled(v api.Vec, k api.F) (api.Vec, api.Errno) {
	return toldAll([3]*big.Int{product(v[0], k), product(v[1], k), product(v[2], k)})
}

func wantDot(a, b api.Vec) (api.F, api.Errno) {
	sum := new(big.Int)
	for i := range a {
		p := product(a[i], b[i])
		if _, e := told(p); e != api.OK {
			return 0, e
		}
		sum.Add(sum, p)
	}
	return told(sum)
}

// hold holds an answer against the one that is wanted.
func hold[T comparable](t *testing.T, got T, gotErr api.Errno, want T, wantErr api.Errno, what ...any) {
	t.Helper()
	if got != want || gotErr != wantErr {
		t.Fatalf("%v: %v %d, want %v %d", what, got, gotErr, want, wantErr)
	}
}

// P2.1: Right.
func TestRight(t *testing.T) {
	if !vec.Right() || !vec.Right(nil...) {
		t.Error("no vector: want true")
	}
	right := dealt(3)
	for place := range 3 {
		for _, x := range edges() {
			v := api.Vec{}
			v[place] = x
			if !vec.Right(v) || !vec.Right(right[0], v, right[1]) {
				t.Errorf("%v: want true", v)
			}
		}
		for _, x := range wrong() {
			for at := range right {
				l := slices.Clone(right)
				l[at][place] = x
				if vec.Right(l...) || vec.Right(l[at]) {
					t.Errorf("%v: want false", l)
				}
			}
		}
	}
	if long := make([]api.Vec, 5000); !vec.Right(long...) {
		t.Error("5000 vectors of noughts: want true") // Add's bound is Add's alone
	}
}

// P2.1: Of.
func TestOf(t *testing.T) {
	whole := []int{-32768, -32767, -3, -1, 0, 1, 3, 32766, 32767}
	for i, x := range whole {
		y, z := whole[(i+2)%len(whole)], whole[(i+5)%len(whole)]
		v, e := vec.Of(x, y, z)
		hold(t, v, e, api.Vec{api.F(x) * one, api.F(y) * one, api.F(z) * one}, api.OK, x, y, z)
	}
	for _, n := range []int{-32769, 32768, 65536, least, greatest, 1 << 48, -1 << 48, 1<<62 + 5, math.MinInt, math.MaxInt} {
		for place := range 3 {
			l := [3]int{7, -8, 9}
			l[place] = n
			v, e := vec.Of(l[0], l[1], l[2])
			hold(t, v, e, api.Vec{}, api.ErrOver, l)
		}
	}
}

// P2.1: Add by example.
func TestAddExamples(t *testing.T) {
	top, bottom := api.Vec{greatest, greatest, greatest}, api.Vec{least, least, least}
	for i, c := range []struct {
		l    []api.Vec
		want api.Vec
		e    api.Errno
	}{
		{nil, api.Vec{}, api.OK},
		{[]api.Vec{}, api.Vec{}, api.OK},
		{[]api.Vec{{1, -2, 3}}, api.Vec{1, -2, 3}, api.OK},
		{[]api.Vec{top}, top, api.OK},
		{[]api.Vec{bottom}, bottom, api.OK},
		{[]api.Vec{{1, 2, 3}, {10, 20, 30}, {-100, -200, -300}}, api.Vec{-89, -178, -267}, api.OK},
		{[]api.Vec{top, bottom}, api.Vec{-1, -1, -1}, api.OK},
		{[]api.Vec{top, {1, 1, 1}, {-2, -2, -2}}, api.Vec{greatest - 1, greatest - 1, greatest - 1}, api.OK}, // only the end counts
		{[]api.Vec{top, {1, 0, 0}}, api.Vec{}, api.ErrOver},
		{[]api.Vec{top, {0, 1, 0}}, api.Vec{}, api.ErrOver},
		{[]api.Vec{top, {0, 0, 1}}, api.Vec{}, api.ErrOver},
		{[]api.Vec{bottom, {-1, 0, 0}}, api.Vec{}, api.ErrOver},
		{[]api.Vec{bottom, {0, -1, 0}}, api.Vec{}, api.ErrOver},
		{[]api.Vec{bottom, {0, 0, -1}}, api.Vec{}, api.ErrOver},
		{slices.Repeat([]api.Vec{{3, -2, 1}}, 1024), api.Vec{3072, -2048, 1024}, api.OK},
		{slices.Repeat([]api.Vec{top, bottom}, 512), api.Vec{-512, -512, -512}, api.OK},
		{slices.Repeat([]api.Vec{top}, 1024), api.Vec{}, api.ErrOver},
		{slices.Repeat([]api.Vec{bottom}, 1024), api.Vec{}, api.ErrOver},
		{make([]api.Vec, 1025), api.Vec{}, api.ErrArg},
		{slices.Repeat([]api.Vec{top}, 1025), api.Vec{}, api.ErrArg}, // ahead of ErrOver
	} {
		v, e := vec.Add(c.l...)
		hold(t, v, e, c.want, c.e, i)
	}
}

// P2.1: Add, Sub, Scale and Dot at all pairs of the edges, in each place.
func TestPlacesAtEdges(t *testing.T) {
	a, b := api.Vec{5, -6, 7}, api.Vec{-8, 9, 10}
	for _, p := range pairs() {
		for place := range 3 {
			a, b := a, b
			a[place], b[place] = p[0], p[1]
			sameAsWide(t, a, b, p[1])
		}
	}
	l := dealt(400)
	for i, a := range l[1:] {
		sameAsWide(t, a, l[i], l[i][2])
	}
}

// sameAsWide holds the calls of two vectors against wide numbers.
func sameAsWide(t *testing.T, a, b api.Vec, k api.F) {
	t.Helper()
	v, e := vec.Add(a, b)
	want, wantErr := wantSum(a, b)
	hold(t, v, e, want, wantErr, "Add", a, b)
	v, e = vec.Sub(a, b)
	want, wantErr = wantDifference(a, b)
	hold(t, v, e, want, wantErr, "Sub", a, b)
	v, e = vec.Scale(a, k)
	want, wantErr = wantScaled(a, k)
	hold(t, v, e, want, wantErr, "Scale", a, k)
	d, e := vec.Dot(a, b)
	wantD, wantErr := wantDot(a, b)
	hold(t, d, e, wantD, wantErr, "Dot", a, b)
}

// P2.1: Sub by example: less the least number, too, of which Neg runs over.
func TestSubExamples(t *testing.T) {
	for place := range 3 {
		for _, c := range []struct {
			a, b, want api.F
			e          api.Errno
		}{
			{7, 9, -2, api.OK},
			{-1, least, greatest, api.OK},
			{least, least, 0, api.OK},
			{0, least, 0, api.ErrOver},
			{greatest, greatest, 0, api.OK},
			{greatest, -1, 0, api.ErrOver},
			{greatest, 0, greatest, api.OK},
			{least, 1, 0, api.ErrOver},
			{least, 0, least, api.OK},
			{-1, greatest, least, api.OK},
			{-2, greatest, 0, api.ErrOver},
		} {
			var a, b, want api.Vec
			a[place], b[place], want[place] = c.a, c.b, c.want
			v, e := vec.Sub(a, b)
			hold(t, v, e, want, c.e, a, b)
		}
	}
}

// P2.1: Scale and Dot by example.
func TestProductExamples(t *testing.T) {
	v, e := vec.Scale(api.Vec{5, 6, -7}, one/2)
	hold(t, v, e, api.Vec{2, 3, -4}, api.OK, "a half") // downwards, below 0 too
	v, e = vec.Scale(api.Vec{least, greatest, -1}, one)
	hold(t, v, e, api.Vec{least, greatest, -1}, api.OK, "once")
	v, e = vec.Scale(api.Vec{least, greatest, -1}, 0)
	hold(t, v, e, api.Vec{}, api.OK, "nought times")
	for place := range 3 {
		var v api.Vec
		v[place] = least
		s, e := vec.Scale(v, -one)
		hold(t, s, e, api.Vec{}, api.ErrOver, v)
	}
	for i, c := range []struct {
		a, b api.Vec
		want api.F
		e    api.Errno
	}{
		{api.Vec{one, 2 * one, 3 * one}, api.Vec{4 * one, -5 * one, 6 * one}, 12 * one, api.OK},
		{api.Vec{-1, -1, -1}, api.Vec{1, 1, 1}, -3, api.OK}, // each product is dropped, not their sum
		{api.Vec{32768, 32768, 0}, api.Vec{1, 1, 0}, 0, api.OK},
		{api.Vec{greatest, 2, -one}, api.Vec{one, one, 3}, greatest - 1, api.OK}, // only the sum's end counts
		{api.Vec{greatest, 1, 0}, api.Vec{one, one, 0}, 0, api.ErrOver},
		{api.Vec{0, least, 1}, api.Vec{0, one, -one}, 0, api.ErrOver},
		{api.Vec{least, greatest, greatest}, api.Vec{one, one, one}, greatest - 1, api.OK},
		{api.Vec{200 * one, 200 * one, 0}, api.Vec{200 * one, -200 * one, 0}, 0, api.ErrOver}, // the products run over, their sum would not
		{api.Vec{least, least, least}, api.Vec{least, least, least}, 0, api.ErrOver},
	} {
		d, e := vec.Dot(c.a, c.b)
		hold(t, d, e, c.want, c.e, i)
	}
}

// P2.1: ErrArg of a number that may not be, in each place, on each side and as k.
func TestWrongNumbers(t *testing.T) {
	over := api.Vec{greatest, greatest, greatest}
	for _, other := range []api.Vec{{}, {1, -2, 3}, over} {
		for _, x := range wrong() {
			for place := range 3 {
				bad := other
				bad[place] = x
				answersErrArg(t, bad, other)
			}
			v, e := vec.Scale(other, x)
			hold(t, v, e, api.Vec{}, api.ErrArg, "Scale by", x)
		}
	}
	v, e := vec.Add(append(make([]api.Vec, 1023), api.Vec{0, 0, greatest + 1})...)
	hold(t, v, e, api.Vec{}, api.ErrArg, "the last of 1024")
}

// answersErrArg asks each call that has errors with one vector that may not be, and one that may.
func answersErrArg(t *testing.T, bad, other api.Vec) {
	t.Helper()
	for _, l := range [][]api.Vec{{bad}, {bad, other}, {other, bad}, {other, other, bad}} {
		v, e := vec.Add(l...)
		hold(t, v, e, api.Vec{}, api.ErrArg, "Add", l)
	}
	for _, l := range [][2]api.Vec{{bad, other}, {other, bad}, {bad, bad}} {
		v, e := vec.Sub(l[0], l[1])
		hold(t, v, e, api.Vec{}, api.ErrArg, "Sub", l)
		d, e := vec.Dot(l[0], l[1])
		hold(t, d, e, 0, api.ErrArg, "Dot", l)
	}
	for _, k := range []api.F{0, one, greatest, least} {
		v, e := vec.Scale(bad, k)
		hold(t, v, e, api.Vec{}, api.ErrArg, "Scale", bad, k)
	}
}

// P2.1: where one place runs over and another one may not be, the answer is ErrArg, whichever comes first.
func TestErrArgAheadOfErrOver(t *testing.T) {
	for _, way := range ways() {
		for _, x := range wrong() {
			a, b := ordered(api.Vec{greatest, x, 0}, way), ordered(api.Vec{greatest, 0, 0}, way)
			v, e := vec.Add(a, b)
			hold(t, v, e, api.Vec{}, api.ErrArg, "Add", a, b)
			v, e = vec.Sub(a, ordered(api.Vec{least, 0, 0}, way))
			hold(t, v, e, api.Vec{}, api.ErrArg, "Sub", a)
			v, e = vec.Sub(ordered(api.Vec{least, 0, 0}, way), a)
			hold(t, v, e, api.Vec{}, api.ErrArg, "Sub less", a)
			v, e = vec.Scale(a, greatest)
			hold(t, v, e, api.Vec{}, api.ErrArg, "Scale", a)
			d, e := vec.Dot(a, b)
			hold(t, d, e, 0, api.ErrArg, "Dot", a, b)
			d, e = vec.Dot(b, a)
			hold(t, d, e, 0, api.ErrArg, "Dot", b, a)
		}
	}
}

// P2.1: Least and Greatest, of any vectors.
func TestLeastGreatest(t *testing.T) {
	for i, c := range []struct{ l, want []api.Vec }{
		{nil, []api.Vec{{}, {}}},
		{[]api.Vec{}, []api.Vec{{}, {}}},
		{[]api.Vec{{4, 5, 6}}, []api.Vec{{4, 5, 6}, {4, 5, 6}}},
		{[]api.Vec{{-4, -5, -6}}, []api.Vec{{-4, -5, -6}, {-4, -5, -6}}},
		{[]api.Vec{{1, 20, 300}, {2, 30, 100}, {3, 10, 200}}, []api.Vec{{1, 10, 100}, {3, 30, 300}}},
		{[]api.Vec{{-1, -20, -300}, {-2, -30, -100}, {-3, -10, -200}}, []api.Vec{{-3, -30, -300}, {-1, -10, -100}}},
		{[]api.Vec{{7, 7, 7}, {7, 7, 7}}, []api.Vec{{7, 7, 7}, {7, 7, 7}}},
		{[]api.Vec{{least, 0, greatest}, {greatest, 0, least}}, []api.Vec{{least, 0, least}, {greatest, 0, greatest}}},
		{[]api.Vec{{math.MaxInt, 0, 1}, {0, math.MinInt, 2}}, []api.Vec{{0, math.MinInt, 1}, {math.MaxInt, 0, 2}}},
		{[]api.Vec{{math.MinInt, math.MinInt, math.MinInt}, {math.MaxInt, math.MaxInt, math.MaxInt}}, []api.Vec{{math.MinInt, math.MinInt, math.MinInt}, {math.MaxInt, math.MaxInt, math.MaxInt}}},
	} {
		back := slices.Clone(c.l)
		slices.Reverse(back)
		for _, l := range [][]api.Vec{c.l, back} {
			if lo, hi := vec.Least(l...), vec.Greatest(l...); lo != c.want[0] || hi != c.want[1] {
				t.Errorf("%d: %v: %v %v, want %v", i, l, lo, hi, c.want)
			}
		}
	}
	many := dealt(3000) // Add's bound is Add's alone
	lo, hi := vec.Least(many...), vec.Greatest(many...)
	for place := range 3 {
		var numbers []api.F
		for _, v := range many {
			numbers = append(numbers, v[place])
		}
		if lo[place] != slices.Min(numbers) || hi[place] != slices.Max(numbers) {
			t.Errorf("place %d: %d %d", place, lo[place], hi[place])
		}
	}
}

// P2.2: a sum hangs on no order of the vectors, nor on that of the places.
func TestSumsHangOnNoOrder(t *testing.T) {
	l := append(dealt(40), api.Vec{least, greatest, 0}, api.Vec{greatest, least, one})
	for i := range l[2:] {
		three := l[i : i+3]
		first, firstErr := vec.Add(three...)
		for _, way := range ways() {
			v, e := vec.Add(three[way[0]], three[way[1]], three[way[2]])
			hold(t, v, e, first, firstErr, three, way)
			v, e = vec.Add(ordered(three[0], way), ordered(three[1], way), ordered(three[2], way))
			hold(t, v, e, ordered(first, way), firstErr, "places", three, way)
		}
	}
	back := slices.Clone(l)
	slices.Reverse(back)
	forth, e := vec.Add(l...)
	again, e2 := vec.Add(back...)
	hold(t, again, e2, forth, e, "back to front")
}

// P2.2: a dot hangs on no order of the two, nor on that of the places.
func TestDotsHangOnNoOrder(t *testing.T) {
	l := append(dealt(40), api.Vec{least, greatest, greatest}, api.Vec{greatest, 2, -one}, api.Vec{one, one, 3}, api.Vec{one, one, one})
	some := 0
	for _, a := range l {
		for _, b := range l {
			first, firstErr := vec.Dot(a, b)
			if firstErr == api.OK {
				some++
			}
			d, e := vec.Dot(b, a)
			hold(t, d, e, first, firstErr, b, a)
			for _, way := range ways() {
				d, e := vec.Dot(ordered(a, way), ordered(b, way))
				hold(t, d, e, first, firstErr, a, b, way)
			}
		}
	}
	if some == 0 {
		t.Error("each dot ran over")
	}
}

// P2.2: a dot of a vector and one that has one 65536, and else 0, is its number there.
func TestDotTellsAPlace(t *testing.T) {
	l := dealt(100)
	for _, p := range pairs() {
		l = append(l, api.Vec{p[0], p[1], least}, api.Vec{greatest, p[0], p[1]})
	}
	for _, v := range l {
		for place := range 3 {
			var unit api.Vec
			unit[place] = one
			d, e := vec.Dot(v, unit)
			hold(t, d, e, v[place], api.OK, v, unit)
			d, e = vec.Dot(unit, v)
			hold(t, d, e, v[place], api.OK, unit, v)
		}
	}
}

// answers is what all calls answer of two vectors and a number.
type answers struct {
	right                   bool
	of, add, sub, scale     api.Vec
	least, greatest         api.Vec
	dot                     api.F
	ofE, addE, subE, scaleE api.Errno
	dotE                    api.Errno
}

func ask(a, b api.Vec, k api.F) (r answers) {
	r.right = vec.Right(a, b)
	r.of, r.ofE = vec.Of(int(a[0]), int(a[1]), int(b[2]))
	r.add, r.addE = vec.Add(a, b)
	r.sub, r.subE = vec.Sub(a, b)
	r.scale, r.scaleE = vec.Scale(a, k)
	r.dot, r.dotE = vec.Dot(a, b)
	r.least, r.greatest = vec.Least(a, b), vec.Greatest(a, b)
	return r
}

// P1, P2: the calls end at all arguments, and answer the same the next time.
func TestSameAgain(t *testing.T) {
	all := append(edges(), wrong()...)
	for i, x := range all {
		for j, y := range all {
			a, b := api.Vec{x, y, all[(i+j)%len(all)]}, api.Vec{y, all[(i+2*j)%len(all)], x}
			first := ask(a, b, y)
			ask(b, a, x)
			if again := ask(a, b, y); again != first {
				t.Fatalf("%v %v %d: %v, then %v", a, b, y, first, again)
			}
		}
	}
}

// Rule 4: a list that is handed in is not written into, and what lies behind its length is not read.
func TestListsAreLeftAlone(t *testing.T) {
	memory := []api.Vec{{3, 4, 5}, {-9, greatest, 1}, {8, -7, 6}, {greatest + 1, 0, 0}, {math.MinInt, 0, math.MaxInt}}
	before := slices.Clone(memory)
	l := memory[:3]
	if !vec.Right(l...) {
		t.Error("Right read behind the list")
	}
	v, e := vec.Add(l...)
	hold(t, v, e, api.Vec{2, greatest - 3, 12}, api.OK, "Add")
	if vec.Least(l...) != (api.Vec{-9, -7, 1}) || vec.Greatest(l...) != (api.Vec{8, greatest, 6}) {
		t.Errorf("Least, Greatest: %v %v", vec.Least(l...), vec.Greatest(l...))
	}
	vec.Add(memory...)
	vec.Right(memory...)
	vec.Least(memory...)
	vec.Greatest(memory...)
	if !slices.Equal(memory, before) {
		t.Errorf("written into: %v", memory)
	}
}
