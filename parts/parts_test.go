package parts_test

import (
	"math"
	"slices"
	"testing"

	"gesso/api"
	"gesso/parts"
)

// The limits as the document writes them, so that a test leans on no constant of the program.
const (
	least    = -2147483648
	greatest = 2147483647
	sets     = 32
)

// everyKind is each kind, rising.
func everyKind() []api.Kind { return []api.Kind{0, 1, 2, 3, 4} }

// wrongKinds are numbers that are no kinds; those of 32 bits and more would be kinds if they were cut short.
func wrongKinds() []api.Kind {
	return []api.Kind{math.MinInt, -1 << 32, -1<<32 + 1, -64, -5, -2, -1, 5, 6, 7, 31, 32, 63, 64, 65, 256, 1 << 32, 1<<32 + 4, math.MaxInt}
}

// wrongSets are numbers that are no sets, though most have bits of kinds.
func wrongSets() []api.Set {
	return []api.Set{math.MinInt, math.MinInt + 31, -1 << 32, -1<<32 + 31, -32, -31, -1, 32, 33, 63, 64, 64 + 18, 1 << 31, 1 << 32, 1<<32 + 31, math.MaxInt}
}

// full has all kinds; each of its values is another one, so that no two can be taken for each other.
func full() api.Parts {
	return api.Parts{
		Has:      31,
		Place:    api.Mat{11, 12, 13, 14, -15, -16, -17, -18, 19, 20, 21, 22},
		Mesh:     3,
		Box:      api.Box{Min: api.Vec{-31, -32, -33}, Max: api.Vec{34, 35, 36}},
		Pipe:     4,
		Material: 5,
		Clear:    true,
		Layer:    6,
	}
}

// other has all kinds, too, and of each value another one than full has.
func other() api.Parts {
	return api.Parts{
		Has:      31,
		Place:    api.Mat{-71, -72, -73, -74, 75, 76, 77, 78, -79, -80, -81, -82},
		Mesh:     203,
		Box:      api.Box{Min: api.Vec{41, 42, 43}, Max: api.Vec{44, 45, 46}},
		Pipe:     54,
		Material: 205,
		Layer:    206,
	}
}

// low has all kinds, with the least values.
func low() api.Parts {
	p := api.Parts{Has: 31, Box: api.Box{Min: api.Vec{least, least, least}, Max: api.Vec{least, least, least}}}
	for place := range p.Place {
		p.Place[place] = least
	}
	return p
}

// high has all kinds, with the greatest values.
func high() api.Parts {
	p := api.Parts{Has: 31, Mesh: 255, Pipe: 63, Material: 255, Clear: true, Layer: 255}
	p.Box = api.Box{Min: api.Vec{greatest, greatest, greatest}, Max: api.Vec{greatest, greatest, greatest}}
	for place := range p.Place {
		p.Place[place] = greatest
	}
	return p
}

// whole has all kinds, the greatest box, and else nothing but noughts.
func whole() api.Parts {
	return api.Parts{Has: 31, Box: api.Box{Min: api.Vec{least, least, least}, Max: api.Vec{greatest, greatest, greatest}}}
}

// sources are parts with all kinds.
func sources() []api.Parts {
	return []api.Parts{full(), other(), low(), high(), whole(), {Has: 31}}
}

// has tells whether a set has a kind, by its bit.
func has(s, kind int) bool { return s>>kind&1 == 1 }

// pick is, of each kind of a set, p's values, written out.
func pick(p api.Parts, s int) api.Parts {
	out := api.Parts{Has: api.Set(s)}
	if has(s, 0) {
		out.Place = p.Place
	}
	if has(s, 1) {
		out.Mesh = p.Mesh
		out.Box = p.Box
	}
	if has(s, 2) {
		out.Pipe = p.Pipe
		out.Material = p.Material
		out.Clear = p.Clear
	}
	if has(s, 3) {
		out.Layer = p.Layer
	}
	return out
}

// mix is p's values of p's kinds that aren't of s, and q's of s, written out.
func mix(p, q api.Parts, s int) api.Parts {
	rest, fresh := pick(p, int(p.Has)&^s), pick(q, s)
	rest.Has += fresh.Has
	if has(s, 0) {
		rest.Place = fresh.Place
	}
	if has(s, 1) {
		rest.Mesh, rest.Box = fresh.Mesh, fresh.Box
	}
	if has(s, 2) {
		rest.Pipe, rest.Material, rest.Clear = fresh.Pipe, fresh.Material, fresh.Clear
	}
	if has(s, 3) {
		rest.Layer = fresh.Layer
	}
	return rest
}

// listed are a set's kinds, rising.
func listed(s int) (l []api.Kind) {
	for kind := range 5 {
		if has(s, kind) {
			l = append(l, api.Kind(kind))
		}
	}
	return l
}

// orders are lists of a set's kinds: rising, falling, turned round, and with some of them twice.
func orders(s int) [][]api.Kind {
	rising := listed(s)
	falling := slices.Clone(rising)
	slices.Reverse(falling)
	out := [][]api.Kind{rising, falling, slices.Concat(rising, rising), slices.Concat(rising, falling)}
	for cut := 1; cut < len(rising); cut++ {
		out = append(out, slices.Concat(rising[cut:], rising[:cut]), slices.Concat(falling[cut:], falling[:cut], falling[cut:]))
	}
	return out
}

// fault is parts that may not be, because of one thing.
type fault struct {
	name string
	p    api.Parts
}

// put is parts with something changed.
func put(p api.Parts, change func(p *api.Parts)) api.Parts {
	change(&p)
	return p
}

// wrongNumbers are numbers that may not be.
func wrongNumbers() []api.F {
	return []api.F{math.MinInt, -1 << 32, least - 1, greatest + 1, 1 << 32, 1<<32 + 1, math.MaxInt}
}

// beyond are whole numbers that are not from 0 to most.
func beyond(most int) []int {
	return []int{math.MinInt, -1 << 32, -256, -2, -1, most + 1, most + 2, 2*most + 1, 1 << 16, 1 << 32, 1<<32 + 1, math.MaxInt}
}

// wrongSetFaults have a Has that may not be; values of kinds whose bits are set, and none at all.
func wrongSetFaults() (l []fault) {
	for _, s := range wrongSets() {
		l = append(l,
			fault{"Has alone", api.Parts{Has: s}},
			fault{"Has", put(full(), func(p *api.Parts) { p.Has = s })},
			fault{"Has of its bits", put(pick(full(), int(s)&31), func(p *api.Parts) { p.Has = s })})
	}
	return l
}

// wrongValueFaults have one value that may not be, of a kind that they have.
func wrongValueFaults() (l []fault) {
	for _, x := range wrongNumbers() {
		for place := range 12 {
			l = append(l, fault{"Place", put(full(), func(p *api.Parts) { p.Place[place] = x })})
		}
		for place := range 3 {
			l = append(l,
				fault{"Box.Min", put(full(), func(p *api.Parts) { p.Box.Min[place] = x })},
				fault{"Box.Max", put(full(), func(p *api.Parts) { p.Box.Max[place] = x })})
		}
	}
	for place := range 3 {
		l = append(l, fault{"Box turned round", put(full(), func(p *api.Parts) { p.Box.Min[place] = p.Box.Max[place] + 1 })})
	}
	for _, x := range beyond(255) {
		l = append(l,
			fault{"Mesh", put(full(), func(p *api.Parts) { p.Mesh = x })},
			fault{"Material", put(full(), func(p *api.Parts) { p.Material = x })},
			fault{"Layer", put(full(), func(p *api.Parts) { p.Layer = x })})
	}
	for _, x := range append(beyond(63), 255, 256) {
		l = append(l, fault{"Pipe", put(full(), func(p *api.Parts) { p.Pipe = x })})
	}
	return l
}

// spareFaults have all kinds but one, and one value of that one, which would be right if they had it.
func spareFaults() (l []fault) {
	add := func(name string, kind int, change func(p *api.Parts)) {
		for _, from := range sources() {
			l = append(l, fault{name + " of no kind", put(pick(from, 31&^(1<<kind)), change)})
		}
		l = append(l, fault{name + " alone", put(api.Parts{}, change)})
	}
	for place := range 12 {
		add("Place", 0, func(p *api.Parts) { p.Place[place] = 1 })
	}
	add("Mesh", 1, func(p *api.Parts) { p.Mesh = 1 })
	for place := range 3 {
		add("Box.Min", 1, func(p *api.Parts) { p.Box.Min[place] = -1 })
		add("Box.Max", 1, func(p *api.Parts) { p.Box.Max[place] = 1 })
	}
	add("Pipe", 2, func(p *api.Parts) { p.Pipe = 1 })
	add("Material", 2, func(p *api.Parts) { p.Material = 1 })
	add("Clear", 2, func(p *api.Parts) { p.Clear = true })
	add("Layer", 3, func(p *api.Parts) { p.Layer = 1 })
	return l
}

// faults are parts that may not be.
func faults() []fault {
	return slices.Concat(wrongSetFaults(), wrongValueFaults(), spareFaults())
}

// draw gives numbers by a fixed rule.
func draw() func(below int) int {
	state := uint32(2463534242)
	return func(below int) int {
		state ^= state << 13
		state ^= state >> 17
		state ^= state << 5
		return int(state>>1) % below
	}
}

// P6.1: Of, and P6.2: a set is of its kinds, whatever their order and however often.
func TestOf(t *testing.T) {
	for s := range sets {
		for _, l := range orders(s) {
			if got, e := parts.Of(l...); got != api.Set(s) || e != api.OK {
				t.Errorf("Of(%v): %d %d", l, got, e)
			}
		}
	}
	for kind, want := range []api.Set{1, 2, 4, 8, 16} {
		if got, e := parts.Of(api.Kind(kind)); got != want || e != api.OK {
			t.Errorf("Of(%d): %d %d", kind, got, e)
		}
	}
	if got, e := parts.Of(); got != 0 || e != api.OK {
		t.Errorf("Of(): %d %d", got, e)
	}
	if got, e := parts.Of(api.Place, api.Shape, api.Paint, api.Layer, api.Hide); got != 31 || e != api.OK {
		t.Errorf("Of: %d %d", got, e)
	}
}

// P6.1: where there is no such kind, Of answers ErrArg, and 0 beside it.
func TestOfWrong(t *testing.T) {
	for _, k := range wrongKinds() {
		for _, l := range [][]api.Kind{{k}, {k, 1}, {1, k}, {0, 1, 2, k, 3, 4}, {k, k}} {
			if got, e := parts.Of(l...); got != 0 || e != api.ErrArg {
				t.Errorf("Of(%v): %d %d", l, got, e)
			}
		}
	}
}

// P6.1: Kinds rise, each once; Of is the way back.
func TestKinds(t *testing.T) {
	for s := range sets {
		l := parts.Kinds(api.Set(s))
		if !slices.Equal(l, listed(s)) {
			t.Errorf("Kinds(%d): %v", s, l)
		}
		if back, e := parts.Of(l...); back != api.Set(s) || e != api.OK {
			t.Errorf("Of(%v): %d %d", l, back, e)
		}
	}
}

// P6.1: of bits above others Kinds tells nothing, of those below it tells all.
func TestKindsAbove(t *testing.T) {
	for bits := 5; bits < 64; bits++ {
		for s := range sets {
			if l := parts.Kinds(api.Set(s | 1<<bits)); !slices.Equal(l, listed(s)) {
				t.Errorf("Kinds(%d and bit %d): %v", s, bits, l)
			}
		}
	}
	if l := parts.Kinds(-1); !slices.Equal(l, everyKind()) {
		t.Errorf("Kinds(-1): %v", l)
	}
	if l := parts.Kinds(-32); len(l) != 0 {
		t.Errorf("Kinds(-32): %v", l)
	}
}

// Rule 4: what Kinds answers is new memory.
func TestKindsNew(t *testing.T) {
	first := parts.Kinds(31)
	second := parts.Kinds(31)
	for i := range first {
		first[i] = 9
	}
	if !slices.Equal(second, everyKind()) || !slices.Equal(parts.Kinds(31), everyKind()) {
		t.Error("Kinds hands out what it keeps")
	}
}

// P6.1: Has asks for all of them, whatever their order; P6.2.
func TestHas(t *testing.T) {
	for s := range sets {
		for asked := range sets {
			for _, l := range orders(asked) {
				want := asked&^s == 0
				if parts.Has(api.Set(s), l...) != want {
					t.Errorf("Has(%d, %v): %v", s, l, !want)
				}
			}
		}
		if !parts.Has(api.Set(s)) {
			t.Errorf("Has(%d) of no kind", s)
		}
	}
}

// P6.1: a kind is asked for by its bit alone, whatever others the number has.
func TestHasAbove(t *testing.T) {
	for _, s := range wrongSets() {
		for kind := range 5 {
			if want := has(int(s), kind); parts.Has(s, api.Kind(kind)) != want {
				t.Errorf("Has(%d, %d): %v", s, kind, !want)
			}
		}
	}
}

// P6.1: no set has what is no kind, not even one with all bits.
func TestHasWrong(t *testing.T) {
	for _, k := range wrongKinds() {
		for _, s := range append(wrongSets(), 0, 1, 31) {
			for _, l := range [][]api.Kind{{k}, {k, 0}, {0, k}, {0, 1, 2, 3, 4, k}} {
				if parts.Has(s, l...) {
					t.Errorf("Has(%d, %v)", s, l)
				}
			}
		}
	}
}

// P6.1: parts of each set with values at the limits and between them may be; drawn are those with place, shape and paint.
func TestRight(t *testing.T) {
	for _, from := range sources() {
		for s := range sets {
			p := pick(from, s)
			if !parts.Right(p) {
				t.Errorf("Right(%v): false", p)
			}
			if want := has(s, 0) && has(s, 1) && has(s, 2); parts.Drawn(p) != want {
				t.Errorf("Drawn(%v): %v", p, !want)
			}
		}
	}
}

// P6.1: each value alone at its edges, in parts of its kind alone.
func TestRightEdges(t *testing.T) {
	for _, x := range []int{0, 1, 63, 64, 127, 128, 254, 255} {
		for _, p := range []api.Parts{{Has: 2, Mesh: x}, {Has: 4, Material: x}, {Has: 8, Layer: x}} {
			if !parts.Right(p) {
				t.Errorf("Right(%v): false", p)
			}
		}
	}
	for _, x := range []int{0, 1, 62, 63} {
		for _, see := range []bool{false, true} {
			if !parts.Right(api.Parts{Has: 4, Pipe: x, Clear: see}) {
				t.Errorf("Right of pipe %d: false", x)
			}
		}
	}
	for place := range 12 {
		for _, x := range []api.F{least, -1, 0, 1, greatest} {
			if !parts.Right(put(api.Parts{Has: 1}, func(p *api.Parts) { p.Place[place] = x })) {
				t.Errorf("Right of %d at %d: false", x, place)
			}
		}
	}
}

// P6.1: what may not be is not right, and not drawn.
func TestRightWrong(t *testing.T) {
	for _, f := range faults() {
		if parts.Right(f.p) {
			t.Errorf("%s: Right(%v)", f.name, f.p)
		}
		if parts.Drawn(f.p) {
			t.Errorf("%s: Drawn(%v)", f.name, f.p)
		}
	}
}

// P6.1: With, at each set that p has and each that is asked of q; P6.2: in many orders; it leaves what may be.
func TestWith(t *testing.T) {
	for _, from := range [][2]api.Parts{{full(), other()}, {other(), full()}, {low(), high()}, {high(), whole()}, {full(), {Has: 31}}} {
		for had := range sets {
			p := pick(from[0], had)
			for asked := range sets {
				want := mix(p, from[1], asked)
				for _, l := range orders(asked) {
					got, e := parts.With(p, from[1], l...)
					if got != want || e != api.OK || !parts.Right(got) {
						t.Fatalf("With(%v, %v, %v): %v %d", p, from[1], l, got, e)
					}
				}
			}
		}
	}
}

// P6.1: q needs no kinds but those that are asked for; where it hasn't one of these, the answer is ErrArg.
func TestWithLess(t *testing.T) {
	for have := range sets {
		q := pick(other(), have)
		for asked := range sets {
			for _, l := range orders(asked) {
				want, wantErr := mix(full(), q, asked), api.OK
				if asked&^have != 0 {
					want, wantErr = api.Parts{}, api.ErrArg
				}
				if got, e := parts.With(full(), q, l...); got != want || e != wantErr {
					t.Fatalf("With(full, %v, %v): %v %d", q, l, got, e)
				}
			}
		}
	}
}

// P6.1: With of parts that may not be, on either side, is ErrArg, with kinds and without, and the parts beside it are empty.
func TestWithWrong(t *testing.T) {
	for _, f := range faults() {
		for _, l := range [][]api.Kind{nil, {0}, {1}, {2}, {3}, {4}, everyKind()} {
			if got, e := parts.With(f.p, full(), l...); got != (api.Parts{}) || e != api.ErrArg {
				t.Errorf("%s: With(%v, full, %v): %v %d", f.name, f.p, l, got, e)
			}
			if got, e := parts.With(full(), f.p, l...); got != (api.Parts{}) || e != api.ErrArg {
				t.Errorf("%s: With(full, %v, %v): %v %d", f.name, f.p, l, got, e)
			}
		}
	}
}

// P6.1: With and Without of what is no kind are ErrArg, beside kinds too.
func TestNoSuchKind(t *testing.T) {
	for _, k := range wrongKinds() {
		for _, l := range [][]api.Kind{{k}, {k, 0}, {0, k}, {0, 1, 2, 3, 4, k}} {
			for _, p := range []api.Parts{{}, full(), pick(full(), 18)} {
				if got, e := parts.With(p, full(), l...); got != (api.Parts{}) || e != api.ErrArg {
					t.Errorf("With(%v, full, %v): %v %d", p, l, got, e)
				}
				if got, e := parts.Without(p, l...); got != (api.Parts{}) || e != api.ErrArg {
					t.Errorf("Without(%v, %v): %v %d", p, l, got, e)
				}
			}
		}
	}
}

// P6.1: Without, at each set that p has and each that goes, which it may have or not; P6.2: in many orders; it leaves what may be.
func TestWithout(t *testing.T) {
	for _, from := range sources() {
		for had := range sets {
			p := pick(from, had)
			for gone := range sets {
				want := pick(from, had&^gone)
				for _, l := range orders(gone) {
					got, e := parts.Without(p, l...)
					if got != want || e != api.OK || !parts.Right(got) {
						t.Fatalf("Without(%v, %v): %v %d", p, l, got, e)
					}
				}
			}
		}
	}
}

// P6.1: Without of parts that may not be is ErrArg, though the fault would go with the kind.
func TestWithoutWrong(t *testing.T) {
	for _, f := range faults() {
		for _, l := range [][]api.Kind{nil, {0}, {1}, {2}, {3}, {4}, everyKind()} {
			if got, e := parts.Without(f.p, l...); got != (api.Parts{}) || e != api.ErrArg {
				t.Errorf("%s: Without(%v, %v): %v %d", f.name, f.p, l, got, e)
			}
		}
	}
}

// P6.2: With, and then Without, of kinds that p hasn't, is p.
func TestThereAndBack(t *testing.T) {
	for _, from := range sources() {
		for had := range sets {
			p := pick(from, had)
			for asked := range sets {
				if asked&had != 0 {
					continue
				}
				for _, l := range orders(asked) {
					with, e := parts.With(p, other(), l...)
					if e != api.OK || with.Has != api.Set(had|asked) {
						t.Fatalf("With(%v, %v): %v %d", p, l, with, e)
					}
					if back, e := parts.Without(with, l...); back != p || e != api.OK {
						t.Fatalf("Without(%v, %v): %v %d, wanted %v", with, l, back, e, p)
					}
				}
			}
		}
	}
}

// P6.2: a long row of both, each time with what came out of the last one, leaves what may be.
func TestManyTurns(t *testing.T) {
	next, all := draw(), sources()
	var p api.Parts
	for turn := range 20000 {
		s := next(sets)
		lists := orders(s)
		l := lists[next(len(lists))]
		var want, got api.Parts
		var e api.Errno
		if next(2) == 0 {
			q := all[next(len(all))]
			want = mix(p, q, s)
			got, e = parts.With(p, q, l...)
		} else {
			want = pick(p, int(p.Has)&^s)
			got, e = parts.Without(p, l...)
		}
		if got != want || e != api.OK || !parts.Right(got) {
			t.Fatalf("turn %d, of %v by %v: %v %d, wanted %v", turn, p, l, got, e, want)
		}
		p = got
	}
}

// Rule 4: a list of kinds that is handed in is not written into, nor what lies behind its length.
func TestListsAreLeft(t *testing.T) {
	memory := []api.Kind{4, 1, 4, 0, 9, 9}
	l := memory[:4]
	parts.Of(l...)
	parts.Has(31, l...)
	if _, e := parts.With(api.Parts{}, full(), l...); e != api.OK {
		t.Errorf("With reads behind the list: %d", e)
	}
	if _, e := parts.Without(full(), l...); e != api.OK {
		t.Errorf("Without reads behind the list: %d", e)
	}
	if !slices.Equal(memory, []api.Kind{4, 1, 4, 0, 9, 9}) {
		t.Errorf("written into: %v", memory)
	}
}
