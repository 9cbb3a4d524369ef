package view_test

import (
	"math"
	"slices"
	"testing"

	"gesso/api"
	"gesso/record"
	"gesso/view"
)

// The limits as the document writes them, so that a test leans on no constant of the program.
const (
	least    = -2147483648
	greatest = 2147483647
	one      = 65536
	most     = 8
)

// The errors' numbers, as the document writes them.
const (
	none    api.Errno = 0
	errArg  api.Errno = 1
	errOver api.Errno = 6
)

// wrongNumbers are numbers that may not be.
func wrongNumbers() []api.F {
	return []api.F{math.MinInt, -1 << 48, -1 << 32, least - one, least - 1, greatest + 1, greatest + one, 1 << 32, 1<<32 + 1, 1 << 48, math.MaxInt}
}

// edges are numbers that may be, at which something turns; they rise.
func edges() []api.F {
	return []api.F{least, least + 1, -200 * one, -one - 1, -one, -3, -1, 0, 1, 3, one, one + 1, 200 * one, greatest - 1, greatest}
}

// draw gives whole numbers of 32 bits by a fixed rule.
func draw() func() int {
	state := uint32(2463534242)
	return func() int {
		state ^= state << 13
		state ^= state >> 17
		state ^= state << 5
		return int(int32(state))
	}
}

// deal gives numbers that may be, great and small ones, each dropped by at least so many bits.
func deal(drop int) func() api.F {
	next, turn := draw(), 0
	return func() api.F {
		turn++
		return api.F(next() >> max(turn%31, drop))
	}
}

func dealtVec(number func() api.F) api.Vec {
	return api.Vec{number(), number(), number()}
}

func dealtBox(number func() api.F) api.Box {
	return between(dealtVec(number), dealtVec(number))
}

func dealtPlane(number func() api.F) api.Plane {
	return api.Plane{N: dealtVec(number), D: number()}
}

func dealtPlanes(count int, number func() api.F) (l []api.Plane) {
	for range count {
		l = append(l, dealtPlane(number))
	}
	return l
}

// between is the box whose corners are two vectors, whichever number is the lesser one.
func between(a, b api.Vec) (out api.Box) {
	for place := range 3 {
		out.Min[place], out.Max[place] = min(a[place], b[place]), max(a[place], b[place])
	}
	return out
}

// at is a vector with one number, at one place.
func at(place int, x api.F) (v api.Vec) {
	v[place] = x
	return v
}

// faces is the plane whose N has one number, at one place.
func faces(place int, n, d api.F) api.Plane { return api.Plane{N: at(place, n), D: d} }

// numbered are planes of which no two numbers are the same.
func numbered(count int) (l []api.Plane) {
	for k := range api.F(count) {
		l = append(l, api.Plane{N: api.Vec{10*k + 1, -10*k - 2, 10*k + 3}, D: -10*k - 4})
	}
	return l
}

// looking is a view of some sides, with an eye that has other numbers than all of numbered's.
func looking(sides ...api.Plane) api.View {
	return api.View{Sides: sides, Eye: api.Plane{N: api.Vec{-1001, 1002, -1003}, D: 1004}, Mask: 37}
}

// boxed is a record of a box that has each layer.
func boxed(b api.Box) record.Record { return record.Record{Layer: 255, Box: b} }

// eachRow gives all rows of so many numbers from 0 to below.
func eachRow(count, below int, each func(row []int)) {
	row := make([]int, count)
	for {
		each(row)
		place := 0
		for place < count && row[place] == below-1 {
			row[place] = 0
			place++
		}
		if place == count {
			return
		}
		row[place]++
	}
}

// fits tells whether all of some may be numbers of the program.
func fits(l ...api.F) bool {
	return slices.Min(l) >= least && slices.Max(l) <= greatest
}

// boxFits tells, by hand, whether a box may be.
func boxFits(b api.Box) bool {
	for place := range 3 {
		if !fits(b.Min[place], b.Max[place]) || b.Min[place] > b.Max[place] {
			return false
		}
	}
	return true
}

// viewFits tells, by hand, whether a view may be.
func viewFits(v api.View) bool {
	for _, p := range append([]api.Plane{v.Eye}, v.Sides...) {
		if !fits(p.N[0], p.N[1], p.N[2], p.D) {
			return false
		}
	}
	return len(v.Sides) <= most && v.Mask >= 0 && v.Mask <= 255
}

// ends are, by hand, those of the span of a plane that may be.
// Products of numbers that may be are at most 2 to the 62, so that nothing wraps round here.
func ends(p api.Plane, b api.Box) (low, high api.F, e api.Errno) {
	if !boxFits(b) {
		return 0, 0, errArg
	}
	low, high = p.D, p.D
	for place, n := range p.N {
		x, y := n*b.Min[place]>>16, n*b.Max[place]>>16
		if !fits(x, y) {
			return 0, 0, errOver
		}
		low += min(x, y)
		high += max(x, y)
	}
	if !fits(low, high) {
		return 0, 0, errOver
	}
	return low, high, none
}

// distance is, by hand, that of a vector from a plane; false if something runs over.
func distance(p api.Plane, v api.Vec) (api.F, bool) {
	dot := api.F(0)
	for place, n := range p.N {
		x := n * v[place] >> 16
		if !fits(x) {
			return 0, false
		}
		dot += x
	}
	return dot + p.D, fits(dot, dot+p.D)
}

// common tells, by hand, whether a layer and a mask have a bit in common.
func common(layer, mask int) bool {
	for bit := range 64 {
		if layer>>bit&1 == 1 && mask>>bit&1 == 1 {
			return true
		}
	}
	return false
}

// verdict is what Sees answers.
type verdict struct {
	depth api.F
	seen  bool
	e     api.Errno
}

func seen(depth api.F) verdict { return verdict{depth: depth, seen: true} }

func unseen() verdict { return verdict{} }

func fails(e api.Errno) verdict { return verdict{e: e} }

// judged is, by hand, what Sees must answer.
func judged(v api.View, r record.Record) verdict {
	if !viewFits(v) {
		return fails(errArg)
	}
	if !common(r.Layer, v.Mask) {
		return unseen()
	}
	for _, p := range v.Sides {
		_, high, e := ends(p, r.Box)
		if e != none {
			return fails(e)
		}
		if high < 0 {
			return unseen()
		}
	}
	low, _, e := ends(v.Eye, r.Box)
	if e != none {
		return fails(e)
	}
	return seen(low)
}

func sees(v api.View, r record.Record) (got verdict) {
	got.depth, got.seen, got.e = view.Sees(v, r)
	return got
}

// holds holds what Sees answers against what is wanted.
func holds(t *testing.T, v api.View, r record.Record, want verdict) {
	t.Helper()
	if got := sees(v, r); got != want {
		t.Fatalf("Sees(%v, %v): %v; want %v", v, r, got, want)
	}
}

// P14.1: a view may have at most eight sides.
func TestMostSides(t *testing.T) {
	if view.MostSides != most {
		t.Errorf("MostSides: %d", view.MostSides)
	}
	if !view.Right(api.View{}) || !view.Right(api.View{Sides: []api.Plane{}}) {
		t.Error("without sides: want true")
	}
	for _, count := range []int{0, 1, 2, 3, 7, 8, 9, 10, 16, 255, 256, 257, 1 << 16, 1<<16 + 1} {
		for _, v := range []api.View{looking(numbered(count)...), {Sides: make([]api.Plane, count)}} {
			if got := view.Right(v); got != (count <= 8) {
				t.Errorf("%d sides: %t", count, got)
			}
		}
	}
}

// P14.1: a view's mask may be from 0 to 255.
func TestRightMask(t *testing.T) {
	for mask := -600; mask <= 600; mask++ {
		v := looking(numbered(2)...)
		v.Mask = mask
		if got := view.Right(v); got != (mask >= 0 && mask <= 255) {
			t.Errorf("mask %d: %t", mask, got)
		}
	}
	for _, v := range wrongMasks() {
		if view.Right(v) {
			t.Errorf("mask %d: true", v.Mask)
		}
	}
}

// put is a plane with one number instead of another: those of N, and behind them D.
func put(p api.Plane, place int, x api.F) api.Plane {
	if place == 3 {
		p.D = x
	} else {
		p.N[place] = x
	}
	return p
}

// P14.1: a view's sides and its eye may be, if their numbers may be, each at each place.
func TestRightNumbers(t *testing.T) {
	numbers := append(edges(), wrongNumbers()...)
	for count := range most + 1 {
		for place := range 4 {
			for _, x := range numbers {
				want := x >= -2147483648 && x <= 2147483647
				v := looking(numbered(count)...)
				v.Eye = put(v.Eye, place, x)
				if got := view.Right(v); got != want {
					t.Fatalf("%v: %t", v, got)
				}
				for k := range count {
					v := looking(numbered(count)...)
					v.Sides[k] = put(v.Sides[k], place, x)
					if got := view.Right(v); got != want {
						t.Fatalf("%v: %t", v, got)
					}
				}
			}
		}
	}
}

// wrongMasks are views that may not be, for their masks.
func wrongMasks() (l []api.View) {
	for _, mask := range []int{-1, -2, -255, -256, 256, 257, 511, 512, least, greatest, 1 << 32, 1<<32 + 1, -1 << 32, -1<<32 + 1, math.MinInt, math.MinInt + 1, math.MaxInt} {
		v := looking(numbered(1)...)
		v.Mask = mask
		l = append(l, v)
	}
	return l
}

// wrongViews are views that may not be, each for one thing.
func wrongViews() []api.View {
	l := wrongMasks()
	for _, count := range []int{9, 10, 17, 300} {
		l = append(l, looking(numbered(count)...), api.View{Sides: make([]api.Plane, count), Mask: 255})
	}
	for _, x := range wrongNumbers() {
		for place := range 4 {
			for _, count := range []int{0, 1, 3, 8} {
				v := looking(numbered(count)...)
				v.Eye = put(v.Eye, place, x)
				l = append(l, v)
				for k := range count {
					v := looking(numbered(count)...)
					v.Sides[k] = put(v.Sides[k], place, x)
					l = append(l, v)
				}
			}
		}
	}
	return l
}

// otherViews are views of which no two are the same; some may not be.
func otherViews() []api.View {
	p, q := numbered(2)[0], numbered(2)[1]
	l := []api.View{{}, {Mask: 1}, {Mask: 256}, {Mask: 257}, {Mask: -1}, {Mask: 1 << 32}, {Eye: p}, {Eye: q}, {Eye: p, Mask: 1}}
	for _, sides := range [][]api.Plane{
		{{}}, {{}, {}}, {p}, {q}, {p, q}, {q, p}, {p, p}, {q, q},
		{p, p, q}, {p, q, p}, {q, p, p}, {p, q, q}, {p, {}}, {{}, p}, {p, q, {}}, {{}, p, q},
		make([]api.Plane, 8), make([]api.Plane, 9), numbered(8), numbered(9), numbered(300),
	} {
		l = append(l, looking(sides...), api.View{Sides: sides}, api.View{Sides: sides, Eye: p}, api.View{Sides: sides, Eye: q, Mask: 255})
	}
	return l
}

// P14.1: a view is the same as one that is made likewise, and as no other one.
func TestSame(t *testing.T) {
	l, again := otherViews(), otherViews()
	for i, a := range l {
		for j, b := range again {
			if got := view.Same(a, b); got != (i == j) {
				t.Errorf("Same(%v, %v): %t", a, b, got)
			}
		}
		if !view.Same(a, a) {
			t.Errorf("%v isn't the same as itself", a)
		}
	}
}

// P14.1: a list without sides may be nil or not.
func TestSameWithoutSides(t *testing.T) {
	v := looking()
	for _, a := range [][]api.Plane{nil, {}, numbered(3)[:0]} {
		for _, b := range [][]api.Plane{nil, {}, numbered(5)[:0]} {
			x, y := v, v
			x.Sides, y.Sides = a, b
			if !view.Same(x, y) {
				t.Errorf("Same(%v, %v): false", x, y)
			}
		}
	}
}

// P14.1: with one number changed, whichever it is, and however far, a view is another one.
func TestSameEachNumber(t *testing.T) {
	for count := range most + 2 {
		for _, by := range []api.F{1, -1, one, 1 << 31, 1 << 32, -1 << 32, 1 << 48, math.MinInt} {
			v := looking(numbered(count)...)
			other := looking(numbered(count)...)
			differ := func(what string) {
				t.Helper()
				if view.Same(v, other) || view.Same(other, v) {
					t.Fatalf("%d sides, %s, by %d: the same", count, what, by)
				}
			}
			other.Mask += int(by)
			differ("mask")
			other.Mask = v.Mask
			for place := range 4 {
				other.Eye = moved(v.Eye, place, by)
				differ("eye")
				other.Eye = v.Eye
				for k := range count {
					other.Sides[k] = moved(v.Sides[k], place, by)
					differ("side")
					other.Sides[k] = v.Sides[k]
				}
			}
			if !view.Same(v, other) {
				t.Fatalf("%d sides, changed back: another one", count)
			}
		}
	}
}

// moved is a plane with one number moved: one of N's, or behind them D.
func moved(p api.Plane, place int, by api.F) api.Plane {
	if place == 3 {
		return put(p, 3, p.D+by)
	}
	return put(p, place, p.N[place]+by)
}

// P14.1: sides are the same in order alone: all rows of up to four of three sides, held against each other.
func TestSameOrder(t *testing.T) {
	var rows [][]int
	for count := range 5 {
		eachRow(count, 3, func(row []int) { rows = append(rows, slices.Clone(row)) })
	}
	kinds := numbered(3)
	sided := func(row []int) api.View {
		var sides []api.Plane
		for _, k := range row {
			sides = append(sides, kinds[k])
		}
		return looking(sides...)
	}
	for _, a := range rows {
		for _, b := range rows {
			if got := view.Same(sided(a), sided(b)); got != slices.Equal(a, b) {
				t.Fatalf("sides %v and %v: %t", a, b, got)
			}
		}
	}
}

// isCopy tells, number by number, whether a view has what is wanted.
func isCopy(v api.View, sides []api.Plane, eye api.Plane, mask int) bool {
	if len(v.Sides) != len(sides) || v.Eye != eye || v.Mask != mask {
		return false
	}
	for k := range sides {
		if v.Sides[k].N != sides[k].N || v.Sides[k].D != sides[k].D {
			return false
		}
	}
	return true
}

// P14.1: a clone has the same, also of a view that may not be; its sides, once changed, leave the view's, and the other way round.
func TestClone(t *testing.T) {
	for _, v := range append(otherViews(), wrongViews()...) {
		had := append([]api.Plane{}, v.Sides...)
		c, d := view.Clone(v), view.Clone(v)
		if !isCopy(c, had, v.Eye, v.Mask) || !view.Same(c, v) || !view.Same(v, d) {
			t.Fatalf("Clone(%v): %v", v, c)
		}
		other := api.Plane{N: api.Vec{77, 78, 79}, D: 80}
		for k := range c.Sides {
			c.Sides[k] = other
		}
		if !isCopy(v, had, v.Eye, v.Mask) || !isCopy(d, had, v.Eye, v.Mask) {
			t.Fatalf("a clone that is changed changes %v, or another clone, %v", v, d)
		}
		for k := range v.Sides {
			v.Sides[k] = other
		}
		if !isCopy(d, had, v.Eye, v.Mask) {
			t.Fatalf("a view that is changed changes its clone: %v", d)
		}
	}
}

// P14.1 and rule 4: what is put behind a clone's sides, or behind a view's, stands in none of the other's memory.
func TestCloneBehindSides(t *testing.T) {
	for count := range most + 2 {
		room := numbered(most + 4)
		v := looking(room[:count]...)
		c := view.Clone(v)
		c.Sides = append(c.Sides, make([]api.Plane, 3)...)
		if !slices.Equal(room, numbered(most+4)) {
			t.Fatalf("%d sides: a clone that grows writes behind the view's: %v", count, room)
		}
		v.Sides = append(v.Sides, api.Plane{D: 99})
		if c.Sides[count] != (api.Plane{}) {
			t.Fatalf("%d sides: a view that grows writes into its clone: %v", count, c.Sides)
		}
	}
}

// P14.1: a clone with one number changed is another view.
func TestCloneChanged(t *testing.T) {
	v := looking(numbered(most)...)
	for k := range most {
		for place := range 4 {
			c := view.Clone(v)
			c.Sides[k] = moved(c.Sides[k], place, 1)
			if view.Same(c, v) || !view.Same(view.Clone(v), v) {
				t.Errorf("side %d, number %d", k, place)
			}
		}
	}
}

// P14.1: a record's depth, and whether it is seen, in views of none, one, several and eight sides, each written out.
func TestSees(t *testing.T) {
	r := record.Record{ID: 5, Layer: 4, Box: api.Box{
		Min: api.Vec{one, 2 * one, 3 * one},
		Max: api.Vec{5 * one, 7 * one, 11 * one},
	}}
	// It looks from 20 down the place 2, so that the depth is 20 less 11.
	v := api.View{Eye: faces(2, -one, 20*one), Mask: 6}
	holds(t, v, r, seen(9*one))
	v.Sides = []api.Plane{faces(0, one, -5*one)}
	holds(t, v, r, seen(9*one))
	v.Sides = []api.Plane{faces(0, one, -5*one-1)}
	holds(t, v, r, unseen())
	// 2x - y - 7 is from 2 - 7 - 7 to 10 - 2 - 7.
	slanted := api.Plane{N: api.Vec{2 * one, -one, 0}, D: -7 * one}
	v.Sides = []api.Plane{faces(1, one, 0), slanted, faces(2, -one/2, 3*one)}
	holds(t, v, r, seen(9*one))
	v.Sides[1].D -= one
	holds(t, v, r, seen(9*one))
	v.Sides[1].D--
	holds(t, v, r, unseen())
	v.Sides = []api.Plane{
		faces(0, one, -one), faces(0, -one, one),
		faces(1, one, -7*one), faces(1, -one, 2*one),
		faces(2, one/2, -5*one), faces(2, -3*one, 9*one),
		{N: api.Vec{one, one, one}, D: -23 * one}, {N: api.Vec{-one, -one, -one}, D: 6 * one},
	}
	holds(t, v, r, seen(9*one))
	for k := range v.Sides {
		blind := view.Clone(v)
		blind.Sides[k].D = -40 * one
		holds(t, blind, r, unseen())
	}
	v.Sides[7].D--
	holds(t, v, r, unseen())
	// Of a slanted eye the depth is the lesser end: 1 - 14 + 3/2 + 8.
	v = api.View{Eye: api.Plane{N: api.Vec{one, -2 * one, one / 2}, D: 8 * one}, Mask: 255}
	holds(t, v, r, seen(-7*one/2))
}

// P14.1: of a layer and a mask, each with each, a record is seen, if a bit is in common, whatever else it is.
func TestLayers(t *testing.T) {
	sides := []api.Plane{faces(0, one, 0), faces(1, -one, 3)}
	b := api.Box{Min: api.Vec{-1, -2, -3}, Max: api.Vec{4, 5, 6}}
	for mask := range 256 {
		for layer := range 256 {
			want := unseen()
			if common(layer, mask) {
				want = seen(-4)
			}
			r := record.Record{ID: 9, Mesh: 255 - layer, Pipe: mask % 64, Material: mask, Clear: layer%2 == 0, Layer: layer, Box: b}
			eye := faces(0, -one, 0)
			if got := sees(api.View{Eye: eye, Mask: mask}, r); got != want {
				t.Fatalf("layer %d, mask %d: %v; want %v", layer, mask, got, want)
			}
			if got := sees(api.View{Sides: sides, Eye: eye, Mask: mask}, r); got != want {
				t.Fatalf("layer %d, mask %d, with sides: %v; want %v", layer, mask, got, want)
			}
		}
	}
	holds(t, api.View{Mask: 3}, record.Record{Layer: 4}, unseen())
	holds(t, api.View{Mask: 3}, record.Record{Layer: 1}, seen(0))
}

// crooked are boxes that may not be: a number of a corner may not be, at each place, or Min's is above Max's.
func crooked() (l []api.Box) {
	whole := api.Box{Min: api.Vec{least, least, least}, Max: api.Vec{greatest, greatest, greatest}}
	for _, b := range []api.Box{{}, {Min: api.Vec{-1, -2, -3}, Max: api.Vec{4, 5, 6}}, whole} {
		for place := range 3 {
			for _, x := range wrongNumbers() {
				low, high, both := b, b, b
				low.Min[place], high.Max[place] = x, x
				both.Min[place], both.Max[place] = x, x
				l = append(l, low, high, both)
			}
			over := b
			over.Min[place] = over.Max[place] + 1
			swapped := b
			swapped.Min[place], swapped.Max[place] = 1, 0
			turned := b
			turned.Min[place], turned.Max[place] = greatest, least
			l = append(l, over, swapped, turned)
		}
	}
	return l
}

// P14.1: that no bit is in common is told ahead of any error of a side, of the eye, and of the box.
func TestLayerAheadOfErrors(t *testing.T) {
	over := api.Plane{N: api.Vec{greatest, greatest, greatest}, D: greatest}
	boxes := append(crooked(), api.Box{Min: api.Vec{2 * one, one, one}, Max: api.Vec{3 * one, 2 * one, 2 * one}})
	for _, sides := range [][]api.Plane{nil, {over}, {{}, over}, {over, faces(0, one, least)}, {faces(0, one, -9*one), over}} {
		for _, eye := range []api.Plane{{}, over} {
			for _, b := range boxes {
				v := api.View{Sides: sides, Eye: eye, Mask: 5}
				for _, layer := range []int{0, 2, 8, 10, 250, 256, 512, 1 << 32} {
					holds(t, v, record.Record{Layer: layer, Box: b}, unseen())
				}
				v.Mask = 0
				for _, layer := range []int{0, 1, 4, 255, 256, -1, math.MaxInt, math.MinInt} {
					holds(t, v, record.Record{Layer: layer, Box: b}, unseen())
				}
			}
		}
	}
}

// ended are planes whose span over a box has this greater end, at a place, by N's number, whose sign tells which corner counts.
func ended(b api.Box, place int, n, high api.F) api.Plane {
	return faces(place, n, high-max(n*b.Min[place]>>16, n*b.Max[place]>>16))
}

// P14.1: a side whose span's greater end is just 0 sees; just below it, it doesn't, whichever side it is.
func TestGreaterEnd(t *testing.T) {
	b := api.Box{Min: api.Vec{-2*one - 1, 3, 5 * one}, Max: api.Vec{7, 11*one + 5, 13 * one}}
	for place := range 3 {
		for _, n := range []api.F{one, -one, 3, -3, 2*one + 1, -2*one - 1, one / 7, -one / 7, 1, -1, 0} {
			for count := 1; count <= most; count++ {
				for k := range count {
					v := api.View{Sides: make([]api.Plane, count), Eye: api.Plane{D: 6}, Mask: 1}
					for _, high := range []api.F{0, 1, one, 999 * one} {
						v.Sides[k] = ended(b, place, n, high)
						holds(t, v, boxed(b), seen(6))
					}
					for _, high := range []api.F{-1, -2, -one, -999 * one} {
						v.Sides[k] = ended(b, place, n, high)
						holds(t, v, boxed(b), unseen())
					}
				}
			}
		}
	}
}

// P14.1: the greater end is that of all places together.
func TestGreaterEndOfAllPlaces(t *testing.T) {
	b := api.Box{Min: api.Vec{-one, -2 * one, -3 * one}, Max: api.Vec{4 * one, 5 * one, 6 * one}}
	for signs := range 8 {
		high := api.F(0)
		var n api.Vec
		for place := range n {
			n[place] = one
			at := b.Max[place]
			if signs>>place&1 == 1 {
				n[place] = -one
				at = -b.Min[place]
			}
			high += at
		}
		v := api.View{Sides: []api.Plane{{N: n, D: -high}}, Eye: api.Plane{D: -6}, Mask: 1}
		holds(t, v, boxed(b), seen(-6))
		v.Sides[0].D--
		holds(t, v, boxed(b), unseen())
	}
}

// overs are planes whose span over a box from -3 to 3 at each place runs over: by a product, by the lesser end alone, by the greater end alone, or by both.
func overs() []api.Plane {
	return []api.Plane{
		faces(0, greatest, 0),
		faces(1, least, 0),
		faces(2, greatest, 5),
		faces(0, one, least),
		faces(1, -one, least+1),
		faces(2, one, greatest),
		faces(1, -one, greatest-1),
		{N: api.Vec{30000 * one / 4, 30000 * one / 4, 30000 * one / 4}},
	}
}

// three is the box from -3 to 3, whole, at each place.
func three() api.Box {
	return api.Box{Min: api.Vec{-3 * one, -3 * one, -3 * one}, Max: api.Vec{3 * one, 3 * one, 3 * one}}
}

// P14.1: in all rows of up to four sides that see, don't see, or run over, the first one that doesn't see, or runs over, tells; else the eye.
func TestFirstSideTells(t *testing.T) {
	sights := []api.Plane{faces(0, one, -3*one), {}, {D: greatest}}
	blinds := []api.Plane{faces(1, one, -3*one-1), {D: -1}, {D: least}}
	for n, over := range overs() {
		if _, _, e := ends(over, three()); e != errOver {
			t.Fatalf("%v doesn't run over", over)
		}
		for count := range 5 {
			eachRow(count, 3, func(row []int) {
				v := api.View{Mask: 2}
				want, told := unseen(), false
				for k, kind := range row {
					v.Sides = append(v.Sides, [][]api.Plane{sights, blinds, {over, over, over}}[kind][(k+n)%3])
					if !told && kind == 2 {
						want = fails(errOver)
					}
					told = told || kind != 0
				}
				for _, eye := range []api.Plane{{D: 5}, over} {
					v.Eye = eye
					if !told && eye == over {
						want = fails(errOver)
					} else if !told {
						want = seen(5)
					}
					holds(t, v, boxed(three()), want)
				}
			})
		}
	}
}

// P14.1: an error of the eighth side, and one of the first, behind and ahead of seven that don't see, or see.
func TestErrorAmongEight(t *testing.T) {
	for _, over := range overs() {
		for k := range most {
			v := api.View{Sides: make([]api.Plane, most), Mask: 128}
			v.Sides[k] = over
			holds(t, v, boxed(three()), fails(errOver))
			for j := range most {
				if j == k {
					continue
				}
				v.Sides[j] = api.Plane{D: -1}
				want := fails(errOver)
				if j < k {
					want = unseen()
				}
				holds(t, v, boxed(three()), want)
				v.Sides[j] = api.Plane{}
			}
		}
	}
}

// P14.1: the error of the eye's span tells, if all sides see, and only then; the depth is its lesser end.
func TestEye(t *testing.T) {
	for _, over := range overs() {
		v := api.View{Eye: over, Mask: 1}
		holds(t, v, boxed(three()), fails(errOver))
		v.Sides = []api.Plane{{}, faces(0, -one, -3*one)}
		holds(t, v, boxed(three()), fails(errOver))
		v.Sides[1].D--
		holds(t, v, boxed(three()), unseen())
		v.Sides = nil
		v.Mask = 0
		holds(t, v, boxed(three()), unseen())
	}
	for place := range 3 {
		for _, n := range []api.F{one, -one} {
			v := api.View{Eye: faces(place, n, 0), Mask: 1}
			for _, d := range []api.F{0, 1, -1, least + 3*one, greatest - 3*one} {
				v.Eye.D = d
				holds(t, v, boxed(three()), seen(d-3*one))
			}
			for _, d := range []api.F{least, least + 3*one - 1, greatest - 3*one + 1, greatest} {
				v.Eye.D = d
				holds(t, v, boxed(three()), fails(errOver))
			}
		}
	}
}

// P14.1: a depth may be below 0: that of a record behind the eye, which no side leaves out.
func TestDepthBelowNought(t *testing.T) {
	r := boxed(api.Box{Min: api.Vec{-9, -9, -9}, Max: api.Vec{-5, -5, -5}})
	holds(t, api.View{Eye: faces(1, one, 0), Mask: 1}, r, seen(-9))
	holds(t, api.View{Eye: faces(1, one, 9), Mask: 1}, r, seen(0))
	holds(t, api.View{Eye: faces(1, -one, 0), Mask: 1}, r, seen(5))
	holds(t, api.View{Eye: api.Plane{D: least}, Mask: 1}, r, seen(least))
	holds(t, api.View{Eye: api.Plane{D: greatest}, Mask: 1}, r, seen(greatest))
}

// P14.1: of a view that may not be ErrArg ahead of all, whatever the record is.
func TestWrongViews(t *testing.T) {
	records := []record.Record{
		{},
		boxed(api.Box{}),
		boxed(three()),
		{Layer: 255, Box: crooked()[0]},
		{Layer: 8, Box: three()},
		{Layer: -1, Box: api.Box{Min: api.Vec{1}}},
	}
	for _, v := range wrongViews() {
		if view.Right(v) {
			t.Fatalf("%v may be", v)
		}
		for _, r := range records {
			holds(t, v, r, fails(errArg))
		}
	}
	blind := api.View{Sides: []api.Plane{{D: -1}, {}, {D: greatest + 1}}, Mask: 255}
	holds(t, blind, boxed(three()), fails(errArg))
	blind.Sides[2].D = greatest
	holds(t, blind, boxed(three()), unseen())
	over := api.View{Sides: []api.Plane{overs()[0], {D: least - 1}}, Mask: 255}
	holds(t, over, boxed(three()), fails(errArg))
	over.Sides[1].D = least
	holds(t, over, boxed(three()), fails(errOver))
}

// P14.1: of a record whose box may not be the first span has the error, a side's or the eye's, if a bit is in common.
func TestWrongRecords(t *testing.T) {
	over := overs()[0]
	for _, b := range crooked() {
		for _, sides := range [][]api.Plane{nil, {{}}, {{D: -1}}, {over}, {over, {D: least}}, {{D: least}, over}, numbered(most)} {
			for _, eye := range []api.Plane{{}, over, {D: -5}} {
				v := api.View{Sides: sides, Eye: eye, Mask: 12}
				holds(t, v, record.Record{Layer: 4, Box: b}, fails(errArg))
				holds(t, v, record.Record{Layer: 3, Box: b}, unseen())
			}
		}
	}
}

// P14.1: of a layer its bits alone tell, of a record nothing but its layer and its box.
func TestRestOfRecord(t *testing.T) {
	for _, layer := range []int{-1, -2, -256, -257, 256, 257, 258, 511, 1 << 32, 1<<32 + 1, -1 << 32, math.MinInt, math.MinInt + 1, math.MaxInt} {
		for mask := range 256 {
			v := api.View{Eye: api.Plane{D: 3}, Mask: mask}
			want := unseen()
			if common(layer, mask) {
				want = seen(3)
			}
			holds(t, v, record.Record{Layer: layer}, want)
		}
	}
	v := api.View{Sides: []api.Plane{faces(2, one, -3*one)}, Eye: faces(2, -one, 0), Mask: 255}
	for _, x := range []int{0, 1, -1, 255, 256, least, greatest, math.MinInt, math.MaxInt} {
		for _, clear := range []bool{false, true} {
			r := record.Record{ID: api.ID(x), Mesh: x, Pipe: -x, Material: x / 2, Clear: clear, Layer: 16, Box: three()}
			holds(t, v, r, seen(-3*one))
			r.Box.Max[2]--
			holds(t, v, r, unseen())
		}
	}
}

// P14.1: many views of none to eight sides and many records, each held against the account by hand.
func TestSeesMany(t *testing.T) {
	for count := range most + 1 {
		var had [3]int
		for drop := range 16 {
			number, next := deal(drop), draw()
			for range 400 {
				v := api.View{Sides: dealtPlanes(count, number), Eye: dealtPlane(number), Mask: next() & 255}
				r := record.Record{ID: api.ID(number()), Layer: next() & 255, Box: dealtBox(number)}
				want := judged(v, r)
				holds(t, v, r, want)
				switch {
				case want.e != none:
					had[0]++
				case want.seen:
					had[1]++
				default:
					had[2]++
				}
			}
		}
		if slices.Min(had[:]) < 50 {
			t.Errorf("%d sides: %v run over, are seen, and aren't: too few of one of them", count, had)
		}
	}
}

// P14.1: of the edges of numbers, each by each at each place, of a side and of the eye, as by hand.
func TestSeesEdges(t *testing.T) {
	for place := range 3 {
		for _, n := range edges() {
			for _, d := range edges() {
				p := faces(place, n, d)
				for low, x := range edges() {
					for _, y := range edges()[low:] {
						r := boxed(api.Box{Min: at(place, x), Max: at(place, y)})
						for _, v := range []api.View{{Sides: []api.Plane{p}, Mask: 1}, {Eye: p, Mask: 1}, {Sides: []api.Plane{p}, Eye: p, Mask: 1}} {
							if got, want := sees(v, r), judged(v, r); got != want {
								t.Fatalf("Sees(%v, %v): %v; want %v", v, r, got, want)
							}
						}
					}
				}
			}
		}
	}
}

// sidesOf holds the sides of a box against those that are wanted.
func sidesOf(t *testing.T, b api.Box, want []api.Plane, wantErr api.Errno) {
	t.Helper()
	got, e := view.Box(b)
	if !slices.Equal(got, want) || e != wantErr {
		t.Fatalf("Box(%v): %v, %d; want %v, %d", b, got, e, want, wantErr)
	}
}

// walls are, by hand, the sides of a box in which each number can be turned about.
func walls(b api.Box) []api.Plane {
	return []api.Plane{
		{N: api.Vec{65536, 0, 0}, D: -b.Min[0]},
		{N: api.Vec{-65536, 0, 0}, D: b.Max[0]},
		{N: api.Vec{0, 65536, 0}, D: -b.Min[1]},
		{N: api.Vec{0, -65536, 0}, D: b.Max[1]},
		{N: api.Vec{0, 0, 65536}, D: -b.Min[2]},
		{N: api.Vec{0, 0, -65536}, D: b.Max[2]},
	}
}

// P14.1: the sides of a box, in their order, written out.
func TestBox(t *testing.T) {
	sidesOf(t, api.Box{Min: api.Vec{-1, 2, -3}, Max: api.Vec{4, 5, 6}}, []api.Plane{
		{N: api.Vec{65536, 0, 0}, D: 1},
		{N: api.Vec{-65536, 0, 0}, D: 4},
		{N: api.Vec{0, 65536, 0}, D: -2},
		{N: api.Vec{0, -65536, 0}, D: 5},
		{N: api.Vec{0, 0, 65536}, D: 3},
		{N: api.Vec{0, 0, -65536}, D: 6},
	}, none)
	sidesOf(t, api.Box{}, []api.Plane{
		{N: api.Vec{65536, 0, 0}}, {N: api.Vec{-65536, 0, 0}},
		{N: api.Vec{0, 65536, 0}}, {N: api.Vec{0, -65536, 0}},
		{N: api.Vec{0, 0, 65536}}, {N: api.Vec{0, 0, -65536}},
	}, none)
	number := deal(0)
	for range 5000 {
		b := dealtBox(number)
		sidesOf(t, b, walls(b), none)
	}
}

// P14.1: a number that can't be turned about, at each place, is ErrOver; one that just can be isn't.
func TestBoxEdges(t *testing.T) {
	for place := range 3 {
		for low, x := range edges() {
			for _, y := range edges()[low:] {
				b := api.Box{Min: api.Vec{-5, -6, -7}, Max: api.Vec{5, 6, 7}}
				b.Min[place], b.Max[place] = x, y
				if x == -2147483648 {
					sidesOf(t, b, nil, errOver)
					continue
				}
				sidesOf(t, b, walls(b), none)
			}
		}
	}
	sidesOf(t, api.Box{Min: api.Vec{least, least, least}, Max: api.Vec{greatest, greatest, greatest}}, nil, errOver)
	tight := api.Vec{-greatest, -greatest, -greatest}
	sidesOf(t, api.Box{Min: tight, Max: tight}, []api.Plane{
		{N: api.Vec{65536, 0, 0}, D: greatest}, {N: api.Vec{-65536, 0, 0}, D: -greatest},
		{N: api.Vec{0, 65536, 0}, D: greatest}, {N: api.Vec{0, -65536, 0}, D: -greatest},
		{N: api.Vec{0, 0, 65536}, D: greatest}, {N: api.Vec{0, 0, -65536}, D: -greatest},
	}, none)
}

// P14.1: a box that may not be is ErrArg, ahead of a number that can't be turned about.
func TestBoxWrong(t *testing.T) {
	for _, b := range crooked() {
		sidesOf(t, b, nil, errArg)
		for place := range 3 {
			far := b
			far.Min[place] = least
			if !boxFits(far) {
				sidesOf(t, far, nil, errArg)
			}
		}
	}
}

// P14.1 and rule 4: each answer of Box is new memory, and may be a view's sides.
func TestBoxIsNew(t *testing.T) {
	b := api.Box{Min: api.Vec{-1, 2, -3}, Max: api.Vec{4, 5, 6}}
	first, _ := view.Box(b)
	second, _ := view.Box(b)
	for k := range first {
		first[k] = api.Plane{D: 99}
	}
	if !slices.Equal(second, walls(b)) {
		t.Fatalf("two answers share memory: %v", second)
	}
	sidesOf(t, b, walls(b), none)
	if !view.Right(api.View{Sides: second}) {
		t.Error("the sides of a box may not be a view's")
	}
}

// within is a vector in a box: of each place a number from Min's to Max's.
func within(b api.Box, next func() int) (v api.Vec) {
	for place := range v {
		room := b.Max[place] - b.Min[place] + 1
		v[place] = b.Min[place] + api.F(uint32(next()))%room
	}
	return v
}

// among are vectors in a box: its corners, its middle, and some others.
func among(b api.Box, next func() int) (l []api.Vec) {
	for i := range 8 {
		v := b.Min
		for place := range v {
			if i>>place&1 == 1 {
				v[place] = b.Max[place]
			}
		}
		l = append(l, v)
	}
	var middle api.Vec
	for place := range middle {
		middle[place] = b.Min[place] + (b.Max[place]-b.Min[place])/2
	}
	return append(l, middle, within(b, next), within(b, next), within(b, next), within(b, next))
}

// ahead tells, by hand, whether a vector has, to no side, a distance below 0; false, too, if one runs over.
func ahead(sides []api.Plane, v api.Vec) bool {
	for _, p := range sides {
		if d, ok := distance(p, v); !ok || d < 0 {
			return false
		}
	}
	return true
}

// holdKept holds a view and a record against a vector in the record's box: whether the vector showed that it must be seen, and whether its distance from the eye was held against the depth.
func holdKept(t *testing.T, v api.View, r record.Record, x api.Vec) (shown, deep bool) {
	t.Helper()
	got := sees(v, r)
	if got.e != none || !common(r.Layer, v.Mask) {
		return false, false
	}
	shown = ahead(v.Sides, x)
	if shown && !got.seen {
		t.Fatalf("%v: %v leaves out %v, which has %v", got, v, r, x)
	}
	d, ok := distance(v.Eye, x)
	if !got.seen || !ok {
		return shown, false
	}
	if d < got.depth {
		t.Fatalf("%v: in %v %v, of %v, has the distance %d", got, v, x, r, d)
	}
	return shown, true
}

// P14.2: a record that has a vector to which no side has a distance below 0 is seen, and no vector in it has a lesser distance from the eye than its depth.
func TestNothingLeftOut(t *testing.T) {
	for count := range most + 1 {
		shown, deep := 0, 0
		for _, drop := range []int{0, 4, 8, 10, 12} {
			number, next := deal(drop), draw()
			for range 500 {
				v := api.View{Sides: dealtPlanes(count, number), Eye: dealtPlane(number), Mask: 1 + next()&127*2}
				r := record.Record{Layer: 1 + next()&127*2, Box: dealtBox(number)}
				for k := 3; k < count; k++ {
					// So many sides that lie anywhere would leave hardly anything between them.
					v.Sides[k].D = max(v.Sides[k].D, -1-v.Sides[k].D)
				}
				for _, x := range among(r.Box, next) {
					s, d := holdKept(t, v, r, x)
					if s {
						shown++
					}
					if d {
						deep++
					}
				}
			}
		}
		if shown < 200 || deep < 200 {
			t.Errorf("%d sides: %d vectors shown, %d held against the depth: too few", count, shown, deep)
		}
	}
}

// P14.2: of sides that pass close by a vector in the box, near enough that one last place tells.
func TestNothingLeftOutClose(t *testing.T) {
	number, next, shown := deal(10), draw(), 0
	for turn := range 3000 {
		r := boxed(dealtBox(number))
		x := within(r.Box, next)
		v := api.View{Sides: dealtPlanes(1+turn%most, number), Eye: dealtPlane(number), Mask: 255}
		for k := range v.Sides {
			v.Sides[k].D = 0
			d, ok := distance(v.Sides[k], x)
			if !ok {
				t.Fatalf("%v, %v: runs over", v.Sides[k], x)
			}
			// The vector lies just in it.
			v.Sides[k].D = -d
		}
		if s, _ := holdKept(t, v, r, x); s {
			shown++
		}
	}
	if shown < 2900 {
		t.Errorf("only %d shown", shown)
	}
}

// P14.2: of small boxes each vector that is in them.
func TestNothingLeftOutSmall(t *testing.T) {
	number, next := deal(10), draw()
	r := boxed(api.Box{Min: api.Vec{-2, -1, 0}, Max: api.Vec{1, 1, 3}})
	shown, hidden := 0, 0
	for turn := range 600 {
		v := api.View{Sides: dealtPlanes(turn%(most+1), number), Eye: dealtPlane(number), Mask: 2}
		for k := range v.Sides {
			// Small ones, so that the sides pass through the box.
			v.Sides[k].D = api.F(next() % 5)
		}
		for x := r.Box.Min[0]; x <= r.Box.Max[0]; x++ {
			for y := r.Box.Min[1]; y <= r.Box.Max[1]; y++ {
				for z := r.Box.Min[2]; z <= r.Box.Max[2]; z++ {
					if s, _ := holdKept(t, v, r, api.Vec{x, y, z}); s {
						shown++
					} else {
						hidden++
					}
				}
			}
		}
	}
	if shown < 1000 || hidden < 1000 {
		t.Errorf("%d vectors shown, %d not: too few of one of them", shown, hidden)
	}
}

// shared is, by hand, a vector that two boxes have in common; false, if they have none.
func shared(a, b api.Box) (v api.Vec, ok bool) {
	for place := range v {
		v[place] = max(a.Min[place], b.Min[place])
		if v[place] > a.Max[place] || v[place] > b.Max[place] {
			return api.Vec{}, false
		}
	}
	return v, true
}

// holdSides holds the sides of a box against the box of a record: whether it was seen, and whether nothing ran over.
func holdSides(t *testing.T, b, of api.Box) (met, fine bool) {
	t.Helper()
	sides, e := view.Box(b)
	if e != none {
		return false, false
	}
	v := api.View{Sides: sides, Eye: faces(1, -one, 0), Mask: 1}
	got := sees(v, boxed(of))
	if want := judged(v, boxed(of)); got != want {
		t.Fatalf("in the sides of %v %v is %v; want %v", b, of, got, want)
	}
	if got.e != none {
		return false, false
	}
	if _, met = shared(b, of); got.seen != met {
		t.Fatalf("in the sides of %v %v is %v; in common: %t", b, of, got, met)
	}
	return met, true
}

// meeting are pairs of what two boxes have at a place, from Min's to Max's, that lie apart, touch, or have something in common.
func meeting() [][2][2]api.F {
	return [][2][2]api.F{
		{{0, 2}, {-3, -1}}, {{0, 2}, {3, 4}}, {{0, 0}, {1, 1}}, {{0, 0}, {-1, -1}},
		{{0, 2}, {-3, 0}}, {{0, 2}, {2, 4}}, {{0, 2}, {-1, 1}}, {{0, 2}, {1, 3}},
		{{0, 2}, {1, 1}}, {{0, 2}, {-1, 3}}, {{0, 2}, {0, 2}}, {{1, 1}, {1, 1}},
	}
}

// P14.2: in the sides of a box a record is seen, if its box and that one have a vector in common, and only then: each way to meet, by each at the other places, small and great.
func TestBoxSides(t *testing.T) {
	ways := meeting()
	for _, scale := range []api.F{1, 7, one, 1000 * one} {
		met, apart := 0, 0
		eachRow(3, len(ways), func(row []int) {
			var a, b api.Box
			want := true
			for place, k := range row {
				a.Min[place], a.Max[place] = ways[k][0][0]*scale, ways[k][0][1]*scale
				b.Min[place], b.Max[place] = ways[k][1][0]*scale, ways[k][1][1]*scale
				// The first four of them lie apart.
				want = want && k >= 4
			}
			for _, pair := range [][2]api.Box{{a, b}, {b, a}} {
				got, fine := holdSides(t, pair[0], pair[1])
				if !fine || got != want {
					t.Fatalf("%v: fine %t, met %t; want %t", pair, fine, got, want)
				}
			}
			if want {
				met++
			} else {
				apart++
			}
		})
		if met != 8*8*8 || apart != 12*12*12-8*8*8 {
			t.Errorf("%d met, %d apart", met, apart)
		}
	}
}

// P14.2: of all pairs of what small boxes have at a place, touching within a last place.
func TestBoxSidesEachPlace(t *testing.T) {
	for place := range 3 {
		eachRow(4, 6, func(row []int) {
			if row[0] > row[1] || row[2] > row[3] {
				return
			}
			a := api.Box{Min: api.Vec{-9, -9, -9}, Max: api.Vec{9, 9, 9}}
			b := api.Box{Min: api.Vec{9, -20, 3}, Max: api.Vec{11, -9, 4}}
			if place == 2 {
				a.Min[0], b.Min[0] = 9, 9
			}
			a.Min[place], a.Max[place] = api.F(row[0]-3), api.F(row[1]-3)
			b.Min[place], b.Max[place] = api.F(row[2]-3), api.F(row[3]-3)
			met, fine := holdSides(t, a, b)
			if !fine || met != (row[0] <= row[3] && row[2] <= row[1]) {
				t.Fatalf("%v, %v: fine %t, met %t", a, b, fine, met)
			}
		})
	}
}

// P14.2: of the edges of numbers, if nothing runs over; and of many boxes.
func TestBoxSidesEdges(t *testing.T) {
	met, apart, over := 0, 0, 0
	count := func(a, b api.Box) {
		t.Helper()
		m, fine := holdSides(t, a, b)
		switch {
		case !fine:
			over++
		case m:
			met++
		default:
			apart++
		}
	}
	l := edges()
	for place := range 3 {
		eachRow(4, len(l), func(row []int) {
			if row[0] <= row[1] && row[2] <= row[3] {
				count(api.Box{Min: at(place, l[row[0]]), Max: at(place, l[row[1]])}, api.Box{Min: at(place, l[row[2]]), Max: at(place, l[row[3]])})
			}
		})
	}
	for drop := range 16 {
		number := deal(drop)
		for range 500 {
			count(dealtBox(number), dealtBox(number))
		}
	}
	if met < 1000 || apart < 1000 || over < 1000 {
		t.Errorf("%d met, %d apart, %d run over: too few of one of them", met, apart, over)
	}
}

// P14.2: of a box's sides with no bit in common nothing is seen, in common or not.
func TestBoxSidesLayers(t *testing.T) {
	sides, _ := view.Box(three())
	for mask := range 256 {
		v := api.View{Sides: sides, Mask: mask}
		holds(t, v, record.Record{Layer: 255 - mask, Box: three()}, unseen())
		far := three()
		far.Min[2], far.Max[2] = 4*one, 5*one
		holds(t, v, record.Record{Layer: 255, Box: far}, unseen())
		if mask != 0 {
			holds(t, v, record.Record{Layer: mask, Box: three()}, seen(0))
		}
	}
}

// P1 and P2: the calls end at all arguments, and answer the same the next time, whatever else was asked.
func TestSameAgain(t *testing.T) {
	numbers := append(edges(), wrongNumbers()...)
	for i, x := range numbers {
		for j, y := range numbers {
			v := looking(numbered(i % 10)...)
			v.Eye = put(v.Eye, j%4, y)
			for k := range v.Sides {
				v.Sides[k] = put(v.Sides[k], (i+k)%4, x)
			}
			r := record.Record{Layer: int(y), Box: api.Box{Min: at(i%3, x), Max: at(j%3, y)}}
			first := sees(v, r)
			sides, e := view.Box(r.Box)
			right := view.Right(v)
			holds(t, view.Clone(v), r, judged(v, r))
			view.Box(api.Box{Min: at(j%3, y), Max: at(i%3, x)})
			sees(api.View{Sides: sides, Eye: put(v.Eye, i%4, y), Mask: int(y)}, r)
			again, e2 := view.Box(r.Box)
			if sees(v, r) != first || right != view.Right(v) || !slices.Equal(sides, again) || e != e2 {
				t.Fatalf("%v, %v: another answer than the first time", v, r)
			}
		}
	}
}

// Rule 4: a view's sides are not written into, and what lies behind their length is neither read nor written.
func TestSidesAreLeftAlone(t *testing.T) {
	room := append(numbered(most), api.Plane{D: greatest + 1}, api.Plane{D: -1}, api.Plane{D: math.MinInt})
	before := slices.Clone(room)
	v := api.View{Sides: room[:most], Eye: api.Plane{D: 7}, Mask: 255}
	other := api.View{Sides: numbered(most), Eye: api.Plane{D: 7}, Mask: 255}
	r := boxed(api.Box{Max: api.Vec{greatest, 0, greatest}})
	if !view.Right(v) || !view.Same(v, other) || !view.Same(view.Clone(v), other) {
		t.Error("read behind the sides")
	}
	holds(t, v, r, judged(other, r))
	for count := range most + 1 {
		v.Sides = room[:count]
		view.Right(v)
		view.Same(v, other)
		view.Clone(v)
		sees(v, r)
		sees(v, boxed(crooked()[0]))
	}
	if !slices.Equal(room, before) {
		t.Errorf("written into: %v", room)
	}
}
