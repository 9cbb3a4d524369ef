package record_test

import (
	"cmp"
	"math"
	"slices"
	"testing"

	"gesso/affine"
	"gesso/api"
	"gesso/flow"
	"gesso/record"
)

// The limits as the document writes them, so that a test leans on no constant of the program.
const (
	least    = -2147483648
	greatest = 2147483647
	one      = 65536
	sets     = 32
)

// The errors' numbers, as the document writes them.
const (
	none    api.Errno = 0
	errArg  api.Errno = 1
	errOver api.Errno = 6
)

// same leaves all as it is, written out.
func same() api.Mat {
	return api.Mat{one, 0, 0, 0, 0, one, 0, 0, 0, 0, one, 0}
}

// shift moves each number by n.
func shift(n api.F) api.Mat {
	return api.Mat{one, 0, 0, n, 0, one, 0, n, 0, 0, one, n}
}

// full has all kinds; each of its values is another one, so that no two can be taken for each other.
func full() api.Parts {
	return api.Parts{
		Has:      31,
		Place:    api.Mat{11, 12, 13, 14, -15, -16, -17, -18, 19, 20, 21, 22},
		Mesh:     3,
		Box:      api.Box{Min: api.Vec{-31 * one, -32, -33}, Max: api.Vec{34, 35 * one, 36}},
		Pipe:     4,
		Material: 5,
		Clear:    true,
		Layer:    6,
	}
}

// only is p's values of the kinds of a set, written out.
func only(p api.Parts, s api.Set) api.Parts {
	out := api.Parts{Has: s}
	if s&1 != 0 {
		out.Place = p.Place
	}
	if s&2 != 0 {
		out.Mesh, out.Box = p.Mesh, p.Box
	}
	if s&4 != 0 {
		out.Pipe, out.Material, out.Clear = p.Pipe, p.Material, p.Clear
	}
	if s&8 != 0 {
		out.Layer = p.Layer
	}
	return out
}

// boxed has place, shape and paint, with nothing but a box.
func boxed(b api.Box) api.Parts { return api.Parts{Has: 7, Box: b} }

// shown is the state of who is seen at a world.
func shown(world api.Mat) flow.State { return flow.State{World: world, Shown: true} }

// draw gives whole numbers of 32 bits by a fixed rule.
func draw() func() int {
	state := uint32(2463534242)
	return func() int {
		state ^= state << 13
		state ^= state >> 17
		state ^= state << 5
		return int(int32(state))
	}
}

// deal gives numbers that may be, great and small ones, each dropped by at least so many bits.
func deal(drop int) func() api.F {
	next, turn := draw(), 0
	return func() api.F {
		turn++
		return api.F(next() >> max(turn%31, drop))
	}
}

func dealtMat(number func() api.F) (m api.Mat) {
	for place := range m {
		m[place] = number()
	}
	return m
}

func dealtBox(number func() api.F) (b api.Box) {
	for place := range 3 {
		x, y := number(), number()
		b.Min[place], b.Max[place] = min(x, y), max(x, y)
	}
	return b
}

// fits tells whether a whole number may be one of the program.
func fits(l ...int) bool {
	return slices.Min(l) >= least && slices.Max(l) <= greatest
}

// carried is a box that may be, carried by hand by a matrix that may be; false if something runs over.
// Products of numbers that may be are below 2 to the 62, so that nothing wraps round here.
func carried(m api.Mat, b api.Box) (out api.Box, ok bool) {
	for row := range 3 {
		low, high := int(m[4*row+3]), int(m[4*row+3])
		for place := range 3 {
			x := int(m[4*row+place]) * int(b.Min[place]) >> 16
			y := int(m[4*row+place]) * int(b.Max[place]) >> 16
			if !fits(x, y) {
				return api.Box{}, false
			}
			low += min(x, y)
			high += max(x, y)
		}
		if !fits(low, high) {
			return api.Box{}, false
		}
		out.Min[row], out.Max[row] = api.F(low), api.F(high)
	}
	return out, true
}

// drawn is the record, by hand, of parts that have place, shape and paint and may be, at a world that may be and carries them.
func drawn(t *testing.T, id api.ID, p api.Parts, world api.Mat) record.Record {
	t.Helper()
	box, ok := carried(world, p.Box)
	if !ok {
		t.Fatalf("a box that was to be carried by hand runs over: %v, %v", world, p.Box)
	}
	layer := 1
	if p.Has&8 != 0 {
		layer = p.Layer
	}
	return record.Record{ID: id, Mesh: p.Mesh, Pipe: p.Pipe, Material: p.Material, Clear: p.Clear, Layer: layer, Box: box}
}

// draws is an entity that has this record.
func draws(t *testing.T, id api.ID, p api.Parts, s flow.State, want record.Record) {
	t.Helper()
	got, ok, e := record.Of(id, p, s)
	if got != want || !ok || e != none {
		t.Fatalf("Of(%d, %v, %v): %v, %v, %d; want %v, true, 0", id, p, s, got, ok, e, want)
	}
}

// misses is an entity that has no record, and this error, or none.
func misses(t *testing.T, id api.ID, p api.Parts, s flow.State, want api.Errno) {
	t.Helper()
	got, ok, e := record.Of(id, p, s)
	if got != (record.Record{}) || ok || e != want {
		t.Fatalf("Of(%d, %v, %v): %v, %v, %d; want nothing, false, %d", id, p, s, got, ok, e, want)
	}
}

// worlds are matrices that may be, and carry full's box.
func worlds() []api.Mat {
	return []api.Mat{
		same(),
		{},
		shift(7),
		shift(-9 * one),
		{2 * one, 0, 0, 0, 0, -3 * one, 0, 0, 0, 0, one / 7, 0},
		{0, -one, 0, 0, one, 0, 0, 0, 0, 0, one, 0},
		{2 * one, -3 * one, 5*one + 1, 7, 11, 13 * one, -17, 19 * one, one / 23, -29 * one, 31 * one, -37 * one},
	}
}

// P12.1: a record has an entity's name, its Mesh, Pipe, Material and Clear, its Layer, and its Box, carried, each written out.
func TestOf(t *testing.T) {
	p := full()
	p.Box = api.Box{Min: api.Vec{-2 * one, 3 * one, 5 * one}, Max: api.Vec{7 * one, 11 * one, 13 * one}}
	world := api.Mat{
		0, -one, 0, 17,
		2 * one, 0, 0, -19,
		0, 0, one / 2, 23,
	}
	want := record.Record{
		ID:       29,
		Mesh:     3,
		Pipe:     4,
		Material: 5,
		Clear:    true,
		Layer:    6,
		Box: api.Box{
			Min: api.Vec{-11*one + 17, -4*one - 19, 5*one/2 + 23},
			Max: api.Vec{-3*one + 17, 14*one - 19, 13*one/2 + 23},
		},
	}
	draws(t, 29, p, shown(world), want)
	p.Clear, want.Clear = false, false
	draws(t, 29, p, shown(world), want)
	p.Has, p.Layer, want.Layer = 7, 0, 1
	draws(t, 29, p, shown(world), want)
}

// P12.1: of all kinds, those that have place, shape and paint are drawn, with layer or without (then 1), with hide or without, where they are shown, at any world.
func TestOfEachSet(t *testing.T) {
	for s := range api.Set(sets) {
		p := only(full(), s)
		for id, world := range worlds() {
			misses(t, api.ID(id), p, flow.State{World: world}, none)
			if s&7 != 7 {
				misses(t, api.ID(id), p, shown(world), none)
				continue
			}
			draws(t, api.ID(id), p, shown(world), drawn(t, api.ID(id), p, world))
		}
	}
}

// P12.1: each value that may be is the record's.
func TestOfEachValue(t *testing.T) {
	for x := range 256 {
		for _, clear := range []bool{false, true} {
			p := full()
			p.Clear = clear
			p.Mesh = x
			draws(t, 1, p, shown(same()), drawn(t, 1, p, same()))
			p.Mesh, p.Material = 0, x
			draws(t, 1, p, shown(same()), drawn(t, 1, p, same()))
			p.Material, p.Pipe = 0, x%64
			draws(t, 1, p, shown(same()), drawn(t, 1, p, same()))
			p.Pipe, p.Layer = 0, x
			draws(t, 1, p, shown(same()), drawn(t, 1, p, same()))
		}
	}
}

// P12.1: the layer is 1 without layer, and with it the entity's own, 0 too.
func TestOfLayer(t *testing.T) {
	for layer := range 256 {
		p := full()
		p.Layer = layer
		if r, ok, e := record.Of(0, p, shown(same())); r.Layer != layer || !ok || e != none {
			t.Errorf("with layer %d: %v, %v, %d", layer, r, ok, e)
		}
	}
	for _, s := range []api.Set{7, 7 + 16} {
		if r, ok, e := record.Of(0, only(full(), s), shown(same())); r.Layer != 1 || !ok || e != none {
			t.Errorf("without layer, of the kinds %d: %v, %v, %d", s, r, ok, e)
		}
	}
}

// P12.1: any number is a name, one below 0 too.
func TestOfNames(t *testing.T) {
	for _, id := range []api.ID{0, 1, 255, 256, 257, 1<<24 - 1, greatest, 1 << 32, 1<<32 + 1, math.MaxInt, -1, -256, least, -1 << 32, -1<<32 + 1, math.MinInt} {
		draws(t, id, full(), shown(shift(5)), drawn(t, id, full(), shift(5)))
		misses(t, id, full(), flow.State{World: shift(5)}, none)
		misses(t, id, only(full(), 3), shown(shift(5)), none)
		misses(t, id, full(), shown(shift(greatest)), errOver)
	}
}

// P12.1: where an entity is, its state alone tells, not its place; nor does hide tell whether it is shown.
func TestOfStateAlone(t *testing.T) {
	p := full()
	for _, place := range worlds() {
		p.Place = place
		for _, s := range []api.Set{7, 15, 23, 31} {
			q := only(p, s)
			draws(t, 8, q, shown(shift(3)), drawn(t, 8, q, shift(3)))
			misses(t, 8, q, flow.State{World: shift(3)}, none)
		}
	}
}

// P12.1: a box is carried by any world, or runs over, as by hand.
func TestOfManyWorlds(t *testing.T) {
	over, fine := 0, 0
	for drop := range 16 {
		number := deal(drop)
		for id := range api.ID(1000) {
			p := full()
			p.Place, p.Box = dealtMat(number), dealtBox(number)
			world := dealtMat(number)
			if _, ok := carried(world, p.Box); !ok {
				over++
				misses(t, id, p, shown(world), errOver)
				misses(t, id, p, flow.State{World: world}, none)
				misses(t, id, only(p, 27), shown(world), none)
				continue
			}
			fine++
			draws(t, id, p, shown(world), drawn(t, id, p, world))
		}
	}
	if over < 1000 || fine < 1000 {
		t.Errorf("%d run over, %d don't: too few of one of them", over, fine)
	}
}

// P12.1: of the greatest and least numbers, what comes out in the end must be one.
func TestOfEdges(t *testing.T) {
	whole := api.Box{Min: api.Vec{least, least, least}, Max: api.Vec{greatest, greatest, greatest}}
	draws(t, 0, boxed(whole), shown(same()), record.Record{Layer: 1, Box: whole})
	draws(t, 0, boxed(whole), shown(api.Mat{}), record.Record{Layer: 1})
	far := api.Box{Min: api.Vec{greatest, greatest, greatest}, Max: api.Vec{greatest, greatest, greatest}}
	near := api.Box{Min: api.Vec{least, least, least}, Max: api.Vec{least, least, least}}
	draws(t, 0, boxed(far), shown(shift(least)), record.Record{Layer: 1, Box: api.Box{Min: api.Vec{-1, -1, -1}, Max: api.Vec{-1, -1, -1}}})
	draws(t, 0, boxed(near), shown(shift(greatest)), record.Record{Layer: 1, Box: api.Box{Min: api.Vec{-1, -1, -1}, Max: api.Vec{-1, -1, -1}}})
	draws(t, 0, boxed(api.Box{}), shown(shift(greatest)), record.Record{Layer: 1, Box: far})
	draws(t, 0, boxed(api.Box{}), shown(shift(least)), record.Record{Layer: 1, Box: near})
	misses(t, 0, boxed(far), shown(shift(1)), errOver)
	misses(t, 0, boxed(near), shown(shift(-1)), errOver)
	misses(t, 0, boxed(near), shown(api.Mat{-one}), errOver)
	draws(t, 0, boxed(far), shown(api.Mat{-one, one, 0, 3}), record.Record{Layer: 1, Box: api.Box{Min: api.Vec{3, 0, 0}, Max: api.Vec{3, 0, 0}}})
	misses(t, 0, boxed(far), shown(api.Mat{-2 * one, 2 * one}), errOver)
}

// P12.1: what runs over at one number of a box, whichever it is, is the carrying's error, if the entity is drawn.
func TestOfRunsOver(t *testing.T) {
	for place := range 3 {
		for _, b := range []api.Box{
			{Max: at(place, greatest)},
			{Min: at(place, least)},
		} {
			for row := range 3 {
				world := api.Mat{}
				world[4*row+place] = 2 * one
				misses(t, 3, boxed(b), shown(world), errOver)
				misses(t, 3, boxed(b), flow.State{World: world}, none)
				for _, s := range []api.Set{3, 5, 6} {
					p := boxed(b)
					p.Has = 31
					misses(t, 3, only(p, s), shown(world), none)
				}
				world[4*row+place] = one
				draws(t, 3, boxed(b), shown(world), drawn(t, 3, boxed(b), world))
			}
		}
	}
}

// at is a vector with one number, at one place.
func at(place int, x api.F) (v api.Vec) {
	v[place] = x
	return v
}

// wrongNumbers are numbers that may not be.
func wrongNumbers() []api.F {
	return []api.F{math.MinInt, -1 << 48, -1 << 32, least - one, least - 1, greatest + 1, greatest + one, 1 << 32, 1<<32 + 1, 1 << 48, math.MaxInt}
}

// P12.1: a world that may not be is the carrying's error, where the entity is drawn, and no error where it isn't.
func TestOfWrongWorlds(t *testing.T) {
	for _, x := range wrongNumbers() {
		for place := range 12 {
			world := same()
			world[place] = x
			misses(t, 2, full(), shown(world), errArg)
			misses(t, 2, boxed(api.Box{}), shown(world), errArg)
			misses(t, 2, boxed(api.Box{Max: api.Vec{greatest, greatest, greatest}}), shown(world), errArg)
			misses(t, 2, full(), flow.State{World: world}, none)
			for _, s := range []api.Set{0, 3, 5, 6, 25, 30} {
				misses(t, 2, only(full(), s), shown(world), none)
			}
		}
	}
}

// changed is full, with something changed.
func changed(change func(p *api.Parts)) api.Parts {
	p := full()
	change(&p)
	return p
}

// wrongParts are parts that may not be, each for one thing.
func wrongParts() (l []api.Parts) {
	for _, x := range wrongNumbers() {
		l = append(l,
			changed(func(p *api.Parts) { p.Place[11] = x }),
			changed(func(p *api.Parts) { p.Box.Min[1] = x }),
			changed(func(p *api.Parts) { p.Box.Max[2] = x }),
			changed(func(p *api.Parts) { p.Mesh = int(x) }),
			changed(func(p *api.Parts) { p.Pipe = int(x) }),
			changed(func(p *api.Parts) { p.Material = int(x) }),
			changed(func(p *api.Parts) { p.Layer = int(x) }))
	}
	return append(l,
		changed(func(p *api.Parts) { p.Mesh = 256 }),
		changed(func(p *api.Parts) { p.Mesh = -1 }),
		changed(func(p *api.Parts) { p.Pipe = 64 }),
		changed(func(p *api.Parts) { p.Pipe = -1 }),
		changed(func(p *api.Parts) { p.Material = 256 }),
		changed(func(p *api.Parts) { p.Material = -1 }),
		changed(func(p *api.Parts) { p.Layer = 256 }),
		changed(func(p *api.Parts) { p.Layer = -1 }),
		changed(func(p *api.Parts) { p.Box.Min[0] = p.Box.Max[0] + 1 }),
		changed(func(p *api.Parts) { p.Has = 32 + 31 }),
		changed(func(p *api.Parts) { p.Has = -1 }),
		changed(func(p *api.Parts) { p.Has = 1<<32 + 31 }),
		changed(func(p *api.Parts) { p.Has = 7 }),
		changed(func(p *api.Parts) { p.Has = 23 }),
	)
}

// P12.1: parts that may not be aren't drawn: nothing, and no error, at any world.
func TestOfWrongParts(t *testing.T) {
	wrong := same()
	wrong[5] = greatest + 1
	for _, p := range wrongParts() {
		for _, world := range []api.Mat{same(), {}, shift(greatest), shift(least), wrong} {
			misses(t, 4, p, shown(world), none)
			misses(t, 4, p, flow.State{World: world}, none)
		}
	}
}

// P12.1: no parts, and no state, are nothing.
func TestOfNothing(t *testing.T) {
	misses(t, 0, api.Parts{}, flow.State{}, none)
	misses(t, 0, api.Parts{}, shown(same()), none)
	misses(t, 0, full(), flow.State{}, none)
	draws(t, 0, full(), shown(api.Mat{}), record.Record{Mesh: 3, Pipe: 4, Material: 5, Clear: true, Layer: 6})
}

// P12.1: an entity whose node hangs on another one is drawn where the flow says, if it says so.
func TestOfFlow(t *testing.T) {
	f := flow.New()
	f.Put(
		flow.Node{ID: 1, Parent: -1, Place: shift(one)},
		flow.Node{ID: 2, Parent: 1, Place: affine.Scale(api.Vec{2 * one, -one, one})},
		flow.Node{ID: 3, Parent: 2, Place: shift(5), Hidden: true},
		flow.Node{ID: 4, Parent: 3, Place: shift(7)},
	)
	if _, e := f.Run(); e != none {
		t.Fatalf("Run: %d", e)
	}
	worlds := map[api.ID]api.Mat{
		1: shift(one),
		2: {2 * one, 0, 0, one, 0, -one, 0, one, 0, 0, one, one},
	}
	for id := range api.ID(5) {
		s, _ := f.State(id)
		world, seen := worlds[id]
		if !seen {
			misses(t, id, full(), s, none)
			continue
		}
		draws(t, id, full(), s, drawn(t, id, full(), world))
	}
}

// P12.1 and P2: the same parts and the same state have the same record, whatever else was asked.
func TestOfAgain(t *testing.T) {
	want := drawn(t, 6, full(), shift(2))
	p, s := full(), shown(shift(2))
	for range 3 {
		draws(t, 6, p, s, want)
		misses(t, 6, p, shown(shift(greatest)), errOver)
		misses(t, 7, only(full(), 30), s, none)
	}
	if p != full() || s != shown(shift(2)) {
		t.Errorf("changed what was handed in: %v, %v", p, s)
	}
}

// marked is a record of a name whose other values are told by a mark, so that no two of other marks are the same.
func marked(id api.ID, mark int) record.Record {
	return record.Record{
		ID:       id,
		Mesh:     mark,
		Pipe:     mark / 2,
		Material: mark / 3,
		Clear:    mark%2 == 1,
		Layer:    mark / 5,
		Box:      api.Box{Min: api.Vec{api.F(mark), 0, 0}, Max: api.Vec{api.F(mark), 1, 2}},
	}
}

// row is a record of each of some names, in this order, with marks from a number on.
func row(from int, ids ...api.ID) (l []record.Record) {
	for k, id := range ids {
		l = append(l, marked(id, from+k))
	}
	return l
}

// names are the records' names.
func names(l []record.Record) (ids []api.ID) {
	for _, r := range l {
		ids = append(ids, r.ID)
	}
	return ids
}

// byHand is a list of records that is kept by hand.
type byHand map[api.ID]record.Record

// handed are records by names; a later one of a name instead of an earlier one.
func handed(l []record.Record) byHand {
	m := byHand{}
	m.insert(l)
	return m
}

func (m byHand) insert(l []record.Record) {
	for _, r := range l {
		m[r.ID] = r
	}
}

func (m byHand) remove(ids []api.ID) {
	for _, id := range ids {
		delete(m, id)
	}
}

// list is all of them, by names, rising.
func (m byHand) list() (l []record.Record) {
	for _, r := range m {
		l = append(l, r)
	}
	slices.SortFunc(l, func(a, b record.Record) int { return cmp.Compare(a.ID, b.ID) })
	return l
}

// risen tells whether names rise, none of them twice.
func risen(l []record.Record) bool {
	for k := 1; k < len(l); k++ {
		if l[k-1].ID >= l[k].ID {
			return false
		}
	}
	return true
}

// inserts is the list with others, held against the one by hand; what was handed in is left.
func inserts(t *testing.T, l []record.Record, x ...record.Record) []record.Record {
	t.Helper()
	hadList, hadOthers := slices.Clone(l), slices.Clone(x)
	want := handed(l)
	want.insert(x)
	got := record.Insert(l, x...)
	if !slices.Equal(got, want.list()) || !risen(got) {
		t.Fatalf("Insert(%v, %v): %v; want %v", hadList, hadOthers, got, want.list())
	}
	if !slices.Equal(l, hadList) || !slices.Equal(x, hadOthers) {
		t.Fatalf("Insert(%v, %v) left %v, %v", hadList, hadOthers, l, x)
	}
	return got
}

// removes is the list without some, held against the one by hand; what was handed in is left.
func removes(t *testing.T, l []record.Record, ids ...api.ID) []record.Record {
	t.Helper()
	hadList, hadNames := slices.Clone(l), slices.Clone(ids)
	want := handed(l)
	want.remove(ids)
	got := record.Remove(l, ids...)
	if !slices.Equal(got, want.list()) || !risen(got) {
		t.Fatalf("Remove(%v, %v): %v; want %v", hadList, hadNames, got, want.list())
	}
	if !slices.Equal(l, hadList) || !slices.Equal(ids, hadNames) {
		t.Fatalf("Remove(%v, %v) left %v, %v", hadList, hadNames, l, ids)
	}
	return got
}

// leastIs holds the least one against what it must be.
func leastIs(t *testing.T, want record.Record, l ...record.Record) {
	t.Helper()
	had := slices.Clone(l)
	got, ok := record.Least(l...)
	if got != want || !ok {
		t.Fatalf("Least(%v): %v, %v; want %v, true", had, got, ok, want)
	}
	if !slices.Equal(l, had) {
		t.Fatalf("Least(%v) left %v", had, l)
	}
}

// eachRow gives all rows of so many numbers from 0 to below.
func eachRow(count, below int, each func(row []int)) {
	row := make([]int, count)
	for {
		each(row)
		place := 0
		for place < count && row[place] == below-1 {
			row[place] = 0
			place++
		}
		if place == count {
			return
		}
		row[place]++
	}
}

// someNames are a few names, rising, near 0 and far from it; some would be others if they were cut short.
func someNames() []api.ID { return []api.ID{-1, 0, 1, 256, 1 << 32} }

// picked are names of someNames, by their places.
func picked(places []int) (ids []api.ID) {
	for _, k := range places {
		ids = append(ids, someNames()[k])
	}
	return ids
}

// subset are the names of someNames whose bits are set.
func subset(bits int) (ids []api.ID) {
	for k, id := range someNames() {
		if bits>>k&1 == 1 {
			ids = append(ids, id)
		}
	}
	return ids
}

// P12.1: the least of no records is nothing, and false; of one it is that.
func TestLeastOfFew(t *testing.T) {
	if r, ok := record.Least(); r != (record.Record{}) || ok {
		t.Errorf("Least of none: %v, %v", r, ok)
	}
	if r, ok := record.Least([]record.Record{}...); r != (record.Record{}) || ok {
		t.Errorf("Least of an empty list: %v, %v", r, ok)
	}
	spare := row(1, 5, 6)
	if r, ok := record.Least(spare[:0]...); r != (record.Record{}) || ok {
		t.Errorf("Least of an empty list, with records behind it: %v, %v", r, ok)
	}
	leastIs(t, record.Record{}, record.Record{})
	for _, id := range []api.ID{math.MinInt, -1, 0, 1, math.MaxInt} {
		leastIs(t, marked(id, 3), marked(id, 3))
	}
}

// P12.1: of each row of names, those below 0 too, the least has the least name, and stands ahead of others of it.
func TestLeastOfEachRow(t *testing.T) {
	for count := 1; count <= 5; count++ {
		eachRow(count, 4, func(places []int) {
			l := row(1, picked(places)...)
			leastIs(t, l[slices.Index(places, slices.Min(places))], l...)
		})
	}
}

// P12.1: names alone tell which is the least, no other value.
func TestLeastByName(t *testing.T) {
	low := record.Record{ID: 3}
	high := record.Record{ID: 2, Mesh: 255, Pipe: 63, Material: 255, Clear: true, Layer: 255, Box: api.Box{Min: api.Vec{greatest, greatest, greatest}, Max: api.Vec{greatest, greatest, greatest}}}
	leastIs(t, high, low, high)
	leastIs(t, high, high, low)
	low.ID = 2
	leastIs(t, low, low, high)
	leastIs(t, high, high, low)
}

// P12.1: the least one is found wherever it stands among many.
func TestLeastOfMany(t *testing.T) {
	next := draw()
	for count := 1; count <= 300; count += 13 {
		var l []record.Record
		for mark := range count {
			l = append(l, marked(api.ID(next()>>(mark%31)), mark))
		}
		for place := range l {
			had := l[place].ID
			l[place].ID = math.MinInt
			leastIs(t, l[place], l...)
			l[place].ID = had
		}
		want := 0
		for place, r := range l {
			if r.ID < l[want].ID {
				want = place
			}
		}
		leastIs(t, l[want], l...)
	}
}

// P12.1: records are inserted by names, each instead of one of its name, written out.
func TestInsert(t *testing.T) {
	l := row(10, 2, 4, 6)
	got := record.Insert(l, marked(5, 1), marked(2, 2), marked(9, 3), marked(-7, 4), marked(6, 5))
	want := []record.Record{marked(-7, 4), marked(2, 2), marked(4, 11), marked(5, 1), marked(6, 5), marked(9, 3)}
	if !slices.Equal(got, want) {
		t.Errorf("Insert: %v; want %v", got, want)
	}
	if !slices.Equal(l, row(10, 2, 4, 6)) {
		t.Errorf("Insert left %v", l)
	}
}

// P12.1: records of some names are removed, written out.
func TestRemove(t *testing.T) {
	l := row(10, -3, 2, 4, 6, 257)
	got := record.Remove(l, 257, 4, 77, -3, 4, 1, -1)
	want := []record.Record{marked(2, 11), marked(6, 13)}
	if !slices.Equal(got, want) {
		t.Errorf("Remove: %v; want %v", got, want)
	}
	if !slices.Equal(l, row(10, -3, 2, 4, 6, 257)) {
		t.Errorf("Remove left %v", l)
	}
}

// P12.1 and P12.2: into each list of some names each row of some of them, with one twice too, is inserted.
func TestInsertEach(t *testing.T) {
	for bits := range 1 << len(someNames()) {
		l := row(100, subset(bits)...)
		for count := range 4 {
			eachRow(count, len(someNames()), func(places []int) {
				inserts(t, l, row(1, picked(places)...)...)
			})
		}
	}
}

// P12.1 and P12.2: from each list of some names each row of some of them, with one twice too, is removed.
func TestRemoveEach(t *testing.T) {
	for bits := range 1 << len(someNames()) {
		l := row(100, subset(bits)...)
		for count := range 5 {
			eachRow(count, len(someNames()), func(places []int) {
				removes(t, l, picked(places)...)
			})
		}
	}
}

// P12.1: with no record, and with no name, a list is as it was; of none something is inserted, and nothing removed.
func TestNothing(t *testing.T) {
	for _, l := range [][]record.Record{nil, {}, row(1, 0), row(1, -5, 3, 8)} {
		inserts(t, l)
		inserts(t, l, []record.Record{}...)
		removes(t, l)
		removes(t, l, []api.ID{}...)
		removes(t, nil, names(l)...)
		removes(t, []record.Record{}, names(l)...)
		inserts(t, nil, l...)
		inserts(t, []record.Record{}, l...)
		if got := removes(t, l, names(l)...); len(got) != 0 {
			t.Errorf("without all of them: %v", got)
		}
	}
}

// P12.1: of two records of one name that are inserted at once the one behind is put instead of the one ahead.
func TestInsertOneNameTwice(t *testing.T) {
	for _, l := range [][]record.Record{nil, row(1, 5), row(1, 4, 6), row(1, 4, 5, 6), row(1, 4), row(1, 6)} {
		want := handed(l)
		want.insert(row(90, 5))
		for _, x := range [][]record.Record{
			{marked(5, 70), marked(5, 90)},
			{marked(5, 91), marked(5, 70), marked(5, 71), marked(5, 90)},
			{marked(5, 90), marked(5, 70), marked(5, 90)},
			{marked(5, 90), marked(5, 90)},
		} {
			if got := inserts(t, l, x...); !slices.Equal(got, want.list()) {
				t.Errorf("Insert(%v, %v): %v", l, x, got)
			}
		}
	}
}

// P12.1: a record of a name that is there is put instead of it, though it is another one in one value alone, or in none.
func TestInsertInstead(t *testing.T) {
	was := marked(5, 40)
	l := []record.Record{marked(4, 1), was, marked(6, 2)}
	inserts(t, l, was)
	for _, change := range []func(r *record.Record){
		func(r *record.Record) { r.Mesh++ },
		func(r *record.Record) { r.Pipe++ },
		func(r *record.Record) { r.Material++ },
		func(r *record.Record) { r.Clear = !r.Clear },
		func(r *record.Record) { r.Layer++ },
		func(r *record.Record) { r.Box.Min[0]-- },
		func(r *record.Record) { r.Box.Max[2]++ },
	} {
		r := was
		change(&r)
		if got := inserts(t, l, r); got[1] != r {
			t.Errorf("%v instead of %v: %v", r, was, got)
		}
		if got := inserts(t, l, was, r); got[1] != r {
			t.Errorf("%v behind %v: %v", r, was, got)
		}
		if got := inserts(t, l, r, was); got[1] != was {
			t.Errorf("%v behind %v: %v", was, r, got)
		}
	}
}

// P12.1: two names whose records are else the same are two.
func TestNamesAlone(t *testing.T) {
	a, b := marked(1, 7), marked(1, 7)
	b.ID = 2
	if got := inserts(t, []record.Record{a}, b); len(got) != 2 {
		t.Errorf("Insert of the same with another name: %v", got)
	}
	if got := inserts(t, []record.Record{b}, a); len(got) != 2 {
		t.Errorf("Insert of the same with another name: %v", got)
	}
	if got := removes(t, []record.Record{a, b}, 1); !slices.Equal(got, []record.Record{b}) {
		t.Errorf("Remove of the same with another name: %v", got)
	}
}

// P12.1: any number is a name of a record, far ones and those below 0 too; names that nobody has are passed by.
func TestFarNames(t *testing.T) {
	far := []api.ID{math.MinInt, math.MinInt + 1, -1 << 32, -1<<32 + 1, least, -257, -256, -1, 0, 1, 255, 256, greatest, 1 << 32, 1<<32 + 1, math.MaxInt - 1, math.MaxInt}
	l := row(1, far...)
	inserts(t, nil, l...)
	backwards := slices.Clone(l)
	slices.Reverse(backwards)
	inserts(t, nil, backwards...)
	for k, id := range far {
		inserts(t, l, marked(id, 99))
		inserts(t, []record.Record{l[k]}, backwards...)
		removes(t, l, id)
		without := slices.Delete(slices.Clone(l), k, k+1)
		removes(t, without, id)
		inserts(t, without, marked(id, 99))
	}
	removes(t, row(1, 3, 5, 7), far...)
	removes(t, row(1, 3, 5, 7), append(far, 5)...)
}

// P12.2: what is inserted and removed, one by one, leaves names that rise; others are as they were.
func TestOneByOne(t *testing.T) {
	next := draw()
	for _, wide := range []int{3, 12, 100} {
		var l []record.Record
		kept := byHand{}
		for mark := range 2000 {
			id := api.ID(next()&1023%wide - wide/3)
			if next()&1 == 0 {
				l = inserts(t, l, marked(id, mark))
				kept.insert(row(mark, id))
			} else {
				l = removes(t, l, id)
				kept.remove([]api.ID{id})
			}
			if !slices.Equal(l, kept.list()) {
				t.Fatalf("of %d names, step %d: %v; want %v", wide, mark, l, kept.list())
			}
		}
	}
}

// P12.2: what is inserted and removed, many at once, leaves names that rise; others are as they were.
func TestManyAtOnce(t *testing.T) {
	next := draw()
	for _, wide := range []int{5, 40, 256, 5000} {
		var l []record.Record
		kept := byHand{}
		for mark := range 150 {
			var ids []api.ID
			for range next() & 63 {
				ids = append(ids, api.ID(next()&65535%wide-wide/4))
			}
			x := row(mark*64, ids...)
			if next()&1 == 0 {
				l = inserts(t, l, x...)
				kept.insert(x)
			} else {
				l = removes(t, l, ids...)
				kept.remove(ids)
			}
			if !slices.Equal(l, kept.list()) {
				t.Fatalf("of %d names, step %d: %v; want %v", wide, mark, l, kept.list())
			}
		}
	}
}

// P12.2: all at once is one by one, and behind both insert and remove of the same names the others are as they were.
func TestSameEitherWay(t *testing.T) {
	next := draw()
	for turn := range 300 {
		var had, ids []api.ID
		for range 20 {
			had = append(had, api.ID(next()&31-8))
			ids = append(ids, api.ID(next()&31-8))
		}
		x := row(turn, ids...)[:turn%20]
		ids = ids[:turn%20]
		l := record.Insert(nil, row(1000, had...)...)
		singly := l
		for _, r := range x {
			singly = record.Insert(singly, r)
		}
		if got := inserts(t, l, x...); !slices.Equal(got, singly) {
			t.Fatalf("Insert(%v, %v): %v; one by one %v", l, x, got, singly)
		}
		less := l
		for _, id := range ids {
			less = record.Remove(less, id)
		}
		if got := removes(t, l, ids...); !slices.Equal(got, less) {
			t.Fatalf("Remove(%v, %v): %v; one by one %v", l, ids, got, less)
		}
		if got := removes(t, singly, ids...); !slices.Equal(got, less) {
			t.Fatalf("Insert and Remove of %v: %v; want %v", ids, got, less)
		}
		if got := inserts(t, less, x...); !slices.Equal(got, singly) {
			t.Fatalf("Remove and Insert of %v: %v; want %v", ids, got, singly)
		}
	}
}

// P12.1: what was handed in is left, in all its memory, and what is answered is new.
func TestHandedIn(t *testing.T) {
	memory := row(1, 2, 4, 6, 8, 3, 1, 9)
	others := row(50, 9, 5, 4, 1, 7, 0, 3)
	ids := []api.ID{4, 8, 77, 2, 6, 1}
	was, wereOthers, wereIDs := slices.Clone(memory), slices.Clone(others), slices.Clone(ids)
	for count := range 5 {
		for more := range 5 {
			inserted := record.Insert(memory[:count], others[:more]...)
			removed := record.Remove(memory[:count], ids[:more]...)
			record.Least(memory[:count]...)
			for k := range inserted {
				inserted[k] = marked(-99, 99)
			}
			for k := range removed {
				removed[k] = marked(-98, 98)
			}
			_ = append(inserted, marked(-97, 97))
			_ = append(removed, marked(-96, 96))
			if !slices.Equal(memory, was) || !slices.Equal(others, wereOthers) || !slices.Equal(ids, wereIDs) {
				t.Fatalf("of %d and %d: %v, %v, %v are left", count, more, memory, others, ids)
			}
		}
	}
}

// P12.1: what is written later into what was handed in doesn't show in what was answered, nor in another answer.
func TestNewMemory(t *testing.T) {
	for count := range 5 {
		l, x := row(1, 2, 4, 6, 8)[:count], row(50, 1, 4, 9)[:min(count, 3)]
		ids := []api.ID{4, 8, 5}[:min(count, 3)]
		inserted, again := record.Insert(l, x...), record.Insert(l, x...)
		removed, anew := record.Remove(l, ids...), record.Remove(l, ids...)
		want, rest := slices.Clone(inserted), slices.Clone(removed)
		for _, written := range [][]record.Record{l, x, again, anew} {
			for k := range written {
				written[k] = marked(-99, 99)
			}
		}
		for k := range ids {
			ids[k] = -99
		}
		if !slices.Equal(inserted, want) || !slices.Equal(removed, rest) {
			t.Errorf("of %d: %v, %v; want %v, %v", count, inserted, removed, want, rest)
		}
	}
}

// P1: of a list whose names don't rise nothing is said, but each call on it ends, and leaves it.
func TestNotRising(t *testing.T) {
	for count := range 5 {
		eachRow(count, 3, func(places []int) {
			l := row(1, picked(places)...)
			had := slices.Clone(l)
			for bits := range 1 << 3 {
				record.Insert(l, row(50, subset(bits)...)...)
				record.Insert(l, l...)
				record.Remove(l, subset(bits)...)
			}
			if !slices.Equal(l, had) {
				t.Fatalf("%v is left of %v", l, had)
			}
		})
	}
}

// P12.1 and P12.2: of very many records, too, all calls answer what they must, and soon.
func TestVeryMany(t *testing.T) {
	const many = 200000
	var even, odd []record.Record
	var ids []api.ID
	for k := range many {
		even = append(even, marked(api.ID(2*k), k))
		odd = append(odd, marked(api.ID(2*(many-k)-1), k))
		ids = append(ids, api.ID(2*(many-k)-1))
	}
	all := record.Insert(even, odd...)
	if len(all) != 2*many || !risen(all) {
		t.Fatalf("Insert of very many: %d records", len(all))
	}
	if got := record.Remove(all, ids...); !slices.Equal(got, even) {
		t.Fatalf("Remove of very many: %d records", len(got))
	}
	if got := record.Insert(all, even...); !slices.Equal(got, all) {
		t.Fatalf("Insert of very many that are there: %d records", len(got))
	}
	leastIs(t, odd[many-1], odd...)
}
