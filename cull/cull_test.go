package cull_test

import (
	"maps"
	"math"
	"slices"
	"testing"

	"gesso/api"
	"gesso/cull"
	"gesso/record"
)

// The limits as the document writes them, so that a test leans on no constant of the program.
const (
	least    = -2147483648
	greatest = 2147483647
	one      = 65536
	most     = 8
)

// The errors' numbers, as the document writes them.
const (
	none    api.Errno = 0
	errArg  api.Errno = 1
	errOver api.Errno = 6
)

// double is a cull, and the same by the document's words: its view, its records, what happened since the last run, and what that found.
type double struct {
	t       *testing.T
	c       *cull.Cull
	looks   bool
	view    api.View
	records map[api.ID]record.Record
	changed bool // Look has changed the view, or Close has removed one
	failed  bool
	fresh   map[api.ID]struct{}
	found   []cull.Seen
	steps   int
}

// empty is a new cull, and the same by hand.
func empty(t *testing.T) *double {
	t.Helper()
	c := cull.New()
	if c == nil {
		t.Fatal("New: nil")
	}
	d := &double{t: t, c: c, records: map[api.ID]record.Record{}, fresh: map[api.ID]struct{}{}}
	d.same()
	return d
}

// laid is a cull that ran without an error, in a view, with some records.
func laid(t *testing.T, v api.View, l ...record.Record) *double {
	t.Helper()
	d := empty(t)
	d.look(v)
	d.put(l...)
	d.runs(len(d.records), none)
	return d
}

// open is a view that sees all layers, all that is anywhere, as deep as its number at the first place.
func open() api.View { return api.View{Eye: along(0), Mask: 255} }

// front is open, but for what is behind 0 at the first place.
func front() api.View { return api.View{Sides: []api.Plane{along(0)}, Eye: along(0), Mask: 255} }

// tight is front, one part further, so that it runs over at the greatest number: of the side, not of the eye.
func tight() api.View { return api.View{Sides: []api.Plane{along(1)}, Eye: along(0), Mask: 255} }

// deep is front with an eye that runs over at the greatest number.
func deep() api.View { return api.View{Sides: []api.Plane{along(0)}, Eye: along(1), Mask: 255} }

// masked is open, of a mask.
func masked(mask int) api.View {
	v := open()
	v.Mask = mask
	return v
}

// along is the plane whose distance is the number at the first place, and so much.
func along(d api.F) api.Plane { return api.Plane{N: api.Vec{one, 0, 0}, D: d} }

// at is a record at a number.
func at(id api.ID, x api.F) record.Record {
	return record.Record{ID: id, Mesh: 3, Pipe: 5, Material: 7, Clear: true, Layer: 1, Box: api.Box{Min: api.Vec{x, -x / 2, 1}, Max: api.Vec{x, -x / 2, 2}}}
}

// from is a record from one number to another one.
func from(id api.ID, low, high api.F) record.Record {
	r := at(id, 0)
	r.Box = api.Box{Min: api.Vec{low, 0, 0}, Max: api.Vec{high, 0, 0}}
	return r
}

// layered is a record of a layer.
func layered(id api.ID, layer int) record.Record {
	r := at(id, api.F(layer))
	r.Layer = layer
	return r
}

// crooked is a record whose box may not be: ErrArg in each view.
func crooked(id api.ID) record.Record {
	r := at(id, 4)
	r.Box = api.Box{Min: api.Vec{1, 0, 0}}
	return r
}

// far is a record at the greatest number: ErrOver in tight and deep, and seen in open and front.
func far(id api.ID) record.Record { return from(id, greatest, greatest) }

// fits tells whether all of some may be numbers of the program.
func fits(l ...api.F) bool { return slices.Min(l) >= least && slices.Max(l) <= greatest }

// boxFits tells, by hand, whether a box may be.
func boxFits(b api.Box) bool {
	for place := range 3 {
		if !fits(b.Min[place], b.Max[place]) || b.Min[place] > b.Max[place] {
			return false
		}
	}
	return true
}

// numbers are all of a view, one behind the other.
func numbers(v api.View) []api.F {
	l := []api.F{v.Eye.N[0], v.Eye.N[1], v.Eye.N[2], v.Eye.D}
	for _, p := range v.Sides {
		l = append(l, p.N[0], p.N[1], p.N[2], p.D)
	}
	return l
}

// viewFits tells, by hand, whether a view may be.
func viewFits(v api.View) bool {
	return len(v.Sides) <= most && fits(numbers(v)...) && v.Mask >= 0 && v.Mask <= 255
}

// alike tells, by hand, whether two views are the same.
func alike(a, b api.View) bool { return slices.Equal(numbers(a), numbers(b)) && a.Mask == b.Mask }

// own is a view with sides of its own.
func own(v api.View) api.View {
	v.Sides = append([]api.Plane{}, v.Sides...)
	return v
}

// ends are, by hand, those of the span of a plane that may be.
// Products of numbers that may be are at most 2 to the 62, so that nothing wraps round here.
func ends(p api.Plane, b api.Box) (low, high api.F, e api.Errno) {
	if !boxFits(b) {
		return 0, 0, errArg
	}
	low, high = p.D, p.D
	for place, n := range p.N {
		x, y := n*b.Min[place]>>16, n*b.Max[place]>>16
		if !fits(x, y) {
			return 0, 0, errOver
		}
		low += min(x, y)
		high += max(x, y)
	}
	if !fits(low, high) {
		return 0, 0, errOver
	}
	return low, high, none
}

// judged is, by hand, whether a record is seen in a view that may be, and how deep, or the error.
func judged(v api.View, r record.Record) (depth api.F, seen bool, e api.Errno) {
	if r.Layer&v.Mask == 0 {
		return 0, false, none
	}
	for _, p := range v.Sides {
		_, high, e := ends(p, r.Box)
		if e != none || high < 0 {
			return 0, false, e
		}
	}
	low, _, e := ends(v.Eye, r.Box)
	return low, e == none, e
}

// names are those of all records, rising.
func (d *double) names() []api.ID { return slices.Sorted(maps.Keys(d.records)) }

// dirty tells whether a record is.
func (d *double) dirty(id api.ID) bool {
	_, put := d.fresh[id]
	return d.changed || d.failed || put
}

// due is how many are dirty.
func (d *double) due() (n int) {
	for id := range d.records {
		if d.dirty(id) {
			n++
		}
	}
	return n
}

// verdict is what a run must find, each record looked at anew, and its error.
func (d *double) verdict() (l []cull.Seen, e api.Errno) {
	if !d.looks {
		return nil, none
	}
	for _, id := range d.names() {
		depth, seen, e := judged(d.view, d.records[id])
		if e != none {
			return nil, e
		}
		if seen {
			l = append(l, cull.Seen{ID: id, Depth: depth})
		}
	}
	return l, none
}

// faults is how many records have an error.
func (d *double) faults() (n int) {
	for _, r := range d.records {
		if _, _, e := judged(d.view, r); d.looks && e != none {
			n++
		}
	}
	return n
}

// seen are those that must be told: as the last run found them, but for who went, and who is dirty.
func (d *double) seen() (l []cull.Seen) {
	for _, s := range d.found {
		if _, ok := d.records[s.ID]; ok && !d.dirty(s.ID) {
			l = append(l, s)
		}
	}
	return l
}

// same asks for all that is told, and holds it against what is kept by hand; who is told may write into it.
func (d *double) same() {
	d.t.Helper()
	got := d.c.Seen()
	if want := d.seen(); !slices.Equal(got, want) {
		d.t.Fatalf("Seen: %v, wanted %v", got, want)
	}
	for k := range got {
		got[k] = cull.Seen{ID: 12345, Depth: -54321}
	}
	if n := d.c.Steps(); n != d.steps {
		d.t.Fatalf("Steps: %d, wanted %d", n, d.steps)
	}
}

// look looks in both. The sides that were handed in are spoiled behind the call.
func (d *double) look(v api.View) bool {
	d.t.Helper()
	is, want := false, errArg
	if viewFits(v) {
		is, want = !d.looks || !alike(d.view, v), none
	}
	handed := own(v)
	got, e := d.c.Look(handed)
	if got != is || e != want {
		d.t.Fatalf("Look(%v): %t %d, wanted %t %d", v, got, e, is, want)
	}
	if !alike(handed, v) {
		d.t.Fatalf("Look(%v) wrote into it: %v", v, handed)
	}
	for k := range handed.Sides {
		handed.Sides[k] = api.Plane{N: api.Vec{-7, 7, -7}, D: least}
	}
	if is {
		d.view, d.looks, d.changed = own(v), true, true
	}
	d.same()
	return got
}

// close closes both.
func (d *double) close() {
	d.t.Helper()
	d.c.Close()
	if d.looks {
		d.view, d.looks, d.changed = api.View{}, false, true
	}
	d.same()
}

// put puts records in both. Those that were handed in are spoiled behind the call.
func (d *double) put(l ...record.Record) {
	d.t.Helper()
	handed := slices.Clone(l)
	d.c.Put(handed...)
	if !slices.Equal(handed, l) {
		d.t.Fatalf("Put(%v) wrote into them: %v", l, handed)
	}
	for k := range handed {
		handed[k] = crooked(handed[k].ID + 1)
	}
	for _, r := range l {
		d.records[r.ID] = r
		d.fresh[r.ID] = struct{}{}
	}
	d.same()
}

// drop drops names in both. Those that were handed in are spoiled behind the call.
func (d *double) drop(l ...api.ID) int {
	d.t.Helper()
	went := 0
	for _, id := range l {
		if _, ok := d.records[id]; ok {
			delete(d.records, id)
			went++
		}
	}
	handed := slices.Clone(l)
	if n := d.c.Drop(handed...); n != went {
		d.t.Fatalf("Drop(%v): %d, wanted %d", l, n, went)
	}
	if !slices.Equal(handed, l) {
		d.t.Fatalf("Drop(%v) wrote into them: %v", l, handed)
	}
	clear(handed)
	d.same()
	return went
}

// run runs in both, and lets new culls with the same view and records run.
func (d *double) run() (int, api.Errno) {
	d.t.Helper()
	due := d.due()
	found, want := d.verdict()
	n, e := d.c.Run()
	if n != due || e != want {
		d.t.Fatalf("Run: %d %d, wanted %d %d", n, e, due, want)
	}
	d.found, d.changed, d.failed, d.fresh = found, false, want != none, map[api.ID]struct{}{}
	d.steps += due
	d.same()
	d.anew(want)
	return n, e
}

// anew gives the same view and records to new culls, in two orders: their error, and what is seen, must be those of this one.
func (d *double) anew(want api.Errno) {
	d.t.Helper()
	single, once := cull.New(), cull.New()
	var l []record.Record
	for _, id := range slices.Backward(d.names()) {
		l = append(l, d.records[id])
		single.Put(d.records[id])
	}
	if d.looks {
		single.Look(own(d.view))
		once.Look(own(d.view))
	}
	once.Put(l...)
	for _, c := range []*cull.Cull{single, once} {
		if n, e := c.Run(); n != len(d.records) || e != want {
			d.t.Fatalf("anew: Run: %d %d, wanted %d %d", n, e, len(d.records), want)
		}
		if got, told := c.Seen(), d.c.Seen(); !slices.Equal(got, told) {
			d.t.Fatalf("Seen: %v, anew %v", told, got)
		}
		left := 0
		if want != none {
			left = len(d.records)
		}
		if n, e := c.Run(); n != left || e != want {
			d.t.Fatalf("anew: second Run: %d %d, wanted %d %d", n, e, left, want)
		}
	}
}

// runs lets a run look at so many, with this error; the words must say so, too.
func (d *double) runs(n int, e api.Errno) {
	d.t.Helper()
	if got, told := d.run(); got != n || told != e {
		d.t.Fatalf("Run: %d %d; wanted %d %d", got, told, n, e)
	}
}

// tells lets these names be seen; the words must say so, too.
func (d *double) tells(want ...api.ID) {
	d.t.Helper()
	var got []api.ID
	for _, s := range d.c.Seen() {
		got = append(got, s.ID)
	}
	if !slices.Equal(got, want) {
		d.t.Fatalf("Seen: %v; wanted %v", got, want)
	}
	d.same()
}

// draw gives whole numbers from 0 to below by a fixed rule.
func draw() func(below int) int {
	state := uint32(2463534242)
	return func(below int) int {
		state ^= state << 13
		state ^= state >> 17
		state ^= state << 5
		return int(state>>1) % below
	}
}

// wrongNumbers are numbers that may not be.
func wrongNumbers() []api.F {
	return []api.F{math.MinInt, -1 << 48, -1 << 32, least - one, least - 1, greatest + 1, greatest + one, 1 << 32, 1<<32 + 1, 1 << 48, math.MaxInt}
}

// numbered is a view of so many sides, all of whose numbers are others.
func numbered(count int) api.View {
	v := api.View{Eye: api.Plane{N: api.Vec{-1001, 1002, -1003}, D: 1004}, Mask: 37}
	for k := range api.F(count) {
		v.Sides = append(v.Sides, api.Plane{N: api.Vec{10*k + 1, -10*k - 2, 10*k + 3}, D: -10*k - 4})
	}
	return v
}

// instead is a plane with one number instead of another: those of N, and behind them D.
func instead(p api.Plane, place int, x api.F) api.Plane {
	if place == 3 {
		p.D = x
	} else {
		p.N[place] = x
	}
	return p
}

// wrongViews are views that may not be, each for one thing.
func wrongViews() (l []api.View) {
	for _, mask := range []int{-1, -2, -255, -256, 256, 257, 511, 512, 999, least, greatest, 1 << 32, 1<<32 + 1, math.MinInt, math.MaxInt} {
		l = append(l, masked(mask))
	}
	for _, count := range []int{9, 10, 17, 300} {
		l = append(l, numbered(count), api.View{Sides: make([]api.Plane, count), Mask: 255})
	}
	for _, x := range wrongNumbers() {
		for place := range 4 {
			v := front()
			v.Eye = instead(v.Eye, place, x)
			l = append(l, v)
			for k := range most {
				v := numbered(most)
				v.Sides[k] = instead(v.Sides[k], place, x)
				l = append(l, v)
			}
		}
	}
	return l
}

// otherViews are views that differ from a given one, of at least two sides, each in one thing.
func otherViews(v api.View) (l []api.View) {
	for bit := range 8 {
		w := own(v)
		w.Mask ^= 1 << bit
		l = append(l, w)
	}
	for place := range 4 {
		for _, by := range []api.F{-1, 1, one} {
			w := own(v)
			w.Eye = instead(w.Eye, place, numbers(v)[place]+by)
			l = append(l, w)
			for k := range v.Sides {
				w := own(v)
				w.Sides[k] = instead(w.Sides[k], place, numbers(v)[4+4*k+place]+by)
				l = append(l, w)
			}
		}
	}
	fewer, more, turned := own(v), own(v), own(v)
	fewer.Sides = fewer.Sides[:len(v.Sides)-1]
	slices.Reverse(turned.Sides)
	l = append(l, fewer, turned)
	if len(v.Sides) < most {
		more.Sides = append(more.Sides, v.Sides[len(v.Sides)-1])
		l = append(l, more)
	}
	return l
}

// P15.1: a new cull has no view, no records, nothing that is seen, and no steps.
func TestNew(t *testing.T) {
	d := empty(t)
	d.runs(0, none)
	d.tells()
	if !d.look(front()) {
		t.Error("the first view: false")
	}
	d.runs(0, none)
	if d.drop(0, 1, -1) != 0 || d.c.Steps() != 0 {
		t.Error("records, or steps")
	}
	if a, b := cull.New(), cull.New(); a == b {
		t.Error("New: the same one")
	}
}

// P15.1: answers that are written out, from a new cull on.
func TestWrittenOut(t *testing.T) {
	c := cull.New()
	ran := func(n int, e api.Errno, want ...cull.Seen) {
		t.Helper()
		got, told := c.Run()
		if got != n || told != e || !slices.Equal(c.Seen(), want) {
			t.Fatalf("Run: %d %d %v, wanted %d %d %v", got, told, c.Seen(), n, e, want)
		}
	}
	c.Put(at(5, 3), at(2, -3), at(4, 7))
	ran(3, 0)
	if is, e := c.Look(front()); !is || e != 0 {
		t.Fatalf("Look: %t %d", is, e)
	}
	ran(3, 0, cull.Seen{ID: 4, Depth: 7}, cull.Seen{ID: 5, Depth: 3})
	ran(0, 0, cull.Seen{ID: 4, Depth: 7}, cull.Seen{ID: 5, Depth: 3})
	c.Put(at(2, 1))
	ran(1, 0, cull.Seen{ID: 2, Depth: 1}, cull.Seen{ID: 4, Depth: 7}, cull.Seen{ID: 5, Depth: 3})
	c.Put(crooked(4), at(9, 0))
	if l := c.Seen(); !slices.Equal(l, []cull.Seen{{ID: 2, Depth: 1}, {ID: 5, Depth: 3}}) {
		t.Fatalf("Seen: %v", l)
	}
	ran(2, 1)
	ran(4, 1)
	if n := c.Drop(4, 4, 8); n != 1 {
		t.Fatalf("Drop: %d", n)
	}
	ran(3, 0, cull.Seen{ID: 2, Depth: 1}, cull.Seen{ID: 5, Depth: 3}, cull.Seen{ID: 9})
	if is, e := c.Look(masked(2)); !is || e != 0 {
		t.Fatalf("Look: %t %d", is, e)
	}
	ran(3, 0)
	if n := c.Steps(); n != 3+3+0+1+2+4+3+3 {
		t.Errorf("Steps: %d", n)
	}
}

// P15.1: Look tells whether the view is another one, in whatever it differs, and then all are dirty, and none is told.
func TestLook(t *testing.T) {
	for count := 2; count <= most; count++ {
		v := numbered(count)
		for _, w := range otherViews(v) {
			d := laid(t, v, at(1, 5), at(2, 6), at(3, 7))
			if !d.look(w) {
				t.Fatalf("from %v to %v: false", v, w)
			}
			d.tells()
			d.runs(3, none)
			if d.look(w) {
				t.Fatalf("%v again: true", w)
			}
			d.runs(0, none)
		}
	}
}

// P15.1: the first view is another one, also one of no sides and of nothing but 0, and so is the first one behind Close.
func TestFirstLook(t *testing.T) {
	for _, v := range []api.View{{}, open(), front(), numbered(8)} {
		d := empty(t)
		d.put(at(1, 5), at(2, 6))
		d.runs(2, none)
		for range 3 {
			if !d.look(v) {
				t.Fatalf("the first view %v: false", v)
			}
			d.runs(2, none)
			d.close()
			d.runs(2, none)
		}
	}
}

// P15.1: with the same view nothing changes, whatever memory its sides are in; nil sides are none.
func TestLookSame(t *testing.T) {
	d := laid(t, front(), at(1, 5), at(2, -6), at(3, 7))
	for range 3 {
		if d.look(front()) {
			t.Fatal("the same view: true")
		}
		d.tells(1, 3)
		d.runs(0, none)
	}
	d = laid(t, api.View{Eye: along(0), Mask: 255}, at(1, 5))
	for _, sides := range [][]api.Plane{{}, nil, front().Sides[:0]} {
		if is, e := d.c.Look(api.View{Sides: sides, Eye: along(0), Mask: 255}); is || e != none {
			t.Fatalf("Look with sides %v: %t %d", sides, is, e)
		}
		d.tells(1)
		d.runs(0, none)
	}
}

// P15.1: with the same view those stay dirty that are.
func TestLookSameWhileDirty(t *testing.T) {
	d := laid(t, front(), at(1, 5), at(2, 6), at(3, 7))
	d.put(at(2, 8))
	d.look(front())
	d.tells(1, 3)
	d.runs(1, none)
	d.look(open())
	d.look(open())
	d.tells()
	d.runs(3, none)
	d.put(crooked(1))
	d.runs(1, errArg)
	d.look(open())
	d.tells()
	d.runs(3, errArg)
}

// P15.1: a view that is changed and changed back leaves all dirty; so does one that is closed, and looked at again.
func TestLookBack(t *testing.T) {
	for _, on := range []func(d *double){
		func(d *double) { d.look(open()) },
		func(d *double) { d.look(masked(0)) },
		func(d *double) { d.look(open()); d.look(masked(0)) },
		func(d *double) { d.close() },
		func(d *double) { d.close(); d.close() },
		func(d *double) { d.look(open()); d.close() },
		func(d *double) { d.close(); d.look(open()) },
	} {
		d := laid(t, front(), at(1, 5), at(2, -6), at(3, 7))
		on(d)
		d.tells()
		if !d.look(front()) {
			t.Fatal("changed back: false")
		}
		d.tells()
		d.look(front())
		d.tells()
		d.runs(3, none)
		d.tells(1, 3)
		d.runs(0, none)
	}
}

// P15.1: a view that may not be is ErrArg, and leaves all as it was: the view, who is dirty, and who is seen.
func TestLookWrong(t *testing.T) {
	for _, v := range wrongViews() {
		d := laid(t, front(), at(1, 5), at(2, -6), at(3, 7))
		d.look(v)
		d.tells(1, 3)
		d.runs(0, none)
		d.put(at(2, 8))
		d.look(v)
		d.tells(1, 3)
		d.runs(1, none)
		d.tells(1, 2, 3)
		if d.look(front()) {
			t.Fatalf("behind %v: another view", v)
		}
		d.look(open())
		d.look(v)
		d.tells()
		d.runs(3, none)
	}
}

// P15.1: a view that may not be gives no view to a cull without one.
func TestFirstLookWrong(t *testing.T) {
	for _, v := range wrongViews() {
		d := empty(t)
		d.put(at(1, 5), crooked(2))
		d.look(v)
		d.runs(2, none)
		d.look(v)
		d.runs(0, none)
		d.close()
		d.runs(0, none)
		if !d.look(open()) {
			t.Fatalf("behind %v: not another view", v)
		}
		d.runs(2, errArg)
		d.look(v)
		d.runs(2, errArg)
	}
}

// P15.1: without a view none is seen, and none has an error.
func TestClose(t *testing.T) {
	d := laid(t, front(), at(1, 5), at(2, -6), at(3, 7))
	d.close()
	d.tells()
	d.put(crooked(4), far(5))
	d.runs(5, none)
	d.tells()
	d.put(at(1, 9), crooked(5))
	d.runs(2, none)
	d.runs(0, none)
	d.look(front())
	d.runs(5, errArg)
	d.close()
	d.runs(5, none)
	d.drop(4, 5)
	d.look(front())
	d.runs(3, none)
	d.tells(1, 3)
}

// P15.1: Close without a view changes nothing: neither who is dirty, nor that nobody is seen.
func TestCloseWithoutView(t *testing.T) {
	d := empty(t)
	d.close()
	d.put(at(1, 5), at(2, 6))
	d.close()
	d.runs(2, none)
	d.close()
	d.runs(0, none)
	d.put(at(2, 7))
	d.close()
	d.close()
	d.runs(1, none)
	d.look(open())
	d.runs(2, none)
	d.close()
	d.close()
	d.runs(2, none)
	d.close()
	d.runs(0, none)
}

// P15.1: those that are put, in one call or in several, are dirty, and nobody else.
func TestPut(t *testing.T) {
	d := laid(t, front())
	d.put()
	d.runs(0, none)
	d.put(at(4, 1))
	d.tells()
	d.runs(1, none)
	d.put(at(9, 1), at(2, 2), at(7, 3))
	d.tells(4)
	d.runs(3, none)
	d.tells(2, 4, 7, 9)
	d.put()
	d.runs(0, none)
	d.put(at(1, 1))
	d.put(at(8, 1))
	d.put()
	d.put(at(3, -1))
	d.tells(2, 4, 7, 9)
	d.runs(3, none)
	d.tells(1, 2, 4, 7, 8, 9)
}

// P15.1: of records of one name the last one is had, in one call and in several; they are one that is dirty.
func TestPutTwice(t *testing.T) {
	d := laid(t, front())
	d.put(at(1, 5), at(2, 7), at(1, -5))
	d.runs(2, none)
	d.tells(2)
	d.put(at(1, -5), at(1, 6), at(1, 4), at(1, 3))
	d.runs(1, none)
	d.tells(1, 2)
	if l := d.c.Seen(); l[0].Depth != 3 {
		t.Errorf("depth %d", l[0].Depth)
	}
	d.put(crooked(2), at(2, 4))
	d.runs(1, none)
	d.put(crooked(2))
	d.put(at(2, 9))
	d.runs(1, none)
	d.tells(1, 2)
	d.put(at(3, 1), crooked(3))
	d.runs(1, errArg)
	d.put(at(3, 2))
	d.put(at(3, 2))
	d.runs(3, none)
	d.tells(1, 2, 3)
}

// P15.1: one that is seen, and put again, isn't told till the next run, though it is as it was; nor is one that isn't seen.
func TestPutAgain(t *testing.T) {
	d := laid(t, front(), at(1, 5), at(2, 6), at(3, -7))
	d.put(at(1, 5))
	d.tells(2)
	d.runs(1, none)
	d.tells(1, 2)
	d.put(at(3, -7))
	d.tells(1, 2)
	d.runs(1, none)
	d.put(at(2, -6))
	d.tells(1)
	d.runs(1, none)
	d.tells(1)
	d.put(at(2, 6), at(3, 7))
	d.tells(1)
	d.runs(2, none)
	d.tells(1, 2, 3)
	d.put(at(1, 1), at(2, 1), at(3, 1))
	d.tells()
	d.runs(3, none)
	d.tells(1, 2, 3)
}

// P15.1: a record that is put changes the layer, or the box, or neither: whatever else it has.
func TestPutInstead(t *testing.T) {
	d := laid(t, masked(2), layered(1, 1), layered(2, 2), layered(3, 3))
	d.tells(2, 3)
	d.put(layered(1, 2), layered(2, 1))
	d.tells(3)
	d.runs(2, none)
	d.tells(1, 3)
	d.put(from(3, -9, 9))
	d.runs(1, none)
	d.tells(1)
	other := layered(1, 6)
	other.Mesh, other.Pipe, other.Material, other.Clear = 99, 98, 97, false
	d.put(other)
	d.tells()
	d.runs(1, none)
	d.tells(1)
}

// P15.1: who is dropped isn't seen, and isn't dirty: how many went is told, each once; names that aren't there are none.
func TestDrop(t *testing.T) {
	d := laid(t, front(), at(1, 5), at(2, 6), at(3, -7), at(4, 8))
	for _, l := range [][]api.ID{nil, {}, {0}, {5, -1, 99}, {math.MinInt, math.MaxInt}, {256, 257}} {
		if n := d.drop(l...); n != 0 {
			t.Fatalf("Drop(%v): %d", l, n)
		}
		d.tells(1, 2, 4)
		d.runs(0, none)
	}
	if n := d.drop(2, 2, 77, 2); n != 1 {
		t.Fatalf("Drop: %d", n)
	}
	d.tells(1, 4)
	d.runs(0, none)
	if n := d.drop(2); n != 0 {
		t.Fatalf("Drop again: %d", n)
	}
	if n := d.drop(4, 99, 3, 4, 3); n != 2 {
		t.Fatalf("Drop: %d", n)
	}
	d.tells(1)
	d.look(open())
	d.runs(1, none)
	d.tells(1)
	if n := d.drop(1); n != 1 {
		t.Fatalf("Drop: %d", n)
	}
	d.look(front())
	d.runs(0, none)
	d.tells()
}

// P15.1: one that is put, and dropped ahead of the run, is not looked at; nor is it if it was there ahead of that.
func TestDropDirty(t *testing.T) {
	d := laid(t, front(), at(1, 5), at(2, 6))
	d.put(at(3, 7), crooked(4))
	if n := d.drop(3, 4); n != 2 {
		t.Fatalf("Drop: %d", n)
	}
	d.runs(0, none)
	d.tells(1, 2)
	d.put(crooked(1), at(3, 7))
	if n := d.drop(1); n != 1 {
		t.Fatalf("Drop: %d", n)
	}
	d.tells(2)
	d.runs(1, none)
	d.tells(2, 3)
	d.look(open())
	d.drop(2)
	d.runs(1, none)
	d.tells(3)
}

// P15.1: who is dropped, and put again, is dirty, and not told till the next run.
func TestDropAndPut(t *testing.T) {
	d := laid(t, front(), at(1, 5), at(2, 6), at(3, -7))
	d.drop(1, 3)
	d.put(at(1, 5))
	d.tells(2)
	d.put(at(3, 7))
	d.drop(3)
	d.put(at(3, 8))
	d.tells(2)
	d.runs(2, none)
	d.tells(1, 2, 3)
	d.put(crooked(2))
	d.drop(2)
	d.put(at(2, 1))
	d.runs(1, none)
	d.tells(1, 2, 3)
}

// P15.1: of several that have an error, that of the least name is the run's, in whatever order they were put; how many were dirty is told beside it, and none is seen.
func TestLeastError(t *testing.T) {
	for range 20 {
		for _, l := range [][]record.Record{
			{crooked(3), far(5), at(1, 1)},
			{far(5), at(1, 1), crooked(3)},
			{at(7, 1), far(9), crooked(3), at(4, 4), far(8)},
		} {
			for _, v := range []api.View{tight(), deep()} {
				d := empty(t)
				d.look(v)
				d.put(l...)
				d.runs(len(l), errArg)
				d.tells()
				d.put(far(2))
				d.runs(len(l)+1, errOver)
				d.put(crooked(-1))
				d.runs(len(l)+2, errArg)
				d.drop(-1)
				d.runs(len(l)+1, errOver)
				d.drop(2)
				d.runs(len(l), errArg)
				d.put(at(3, 3))
				d.runs(len(l), errOver)
			}
		}
	}
}

// P15.1: an error of any of many is found, whichever has it, and however many are behind it and ahead of it.
func TestEachError(t *testing.T) {
	for bad := range api.ID(12) {
		d := laid(t, front())
		for id := range api.ID(12) {
			if id == bad {
				d.put(crooked(id))
			} else {
				d.put(at(id, 1))
			}
		}
		d.runs(12, errArg)
		d.put(at(bad, 1))
		d.runs(12, none)
		d.tells(0, 1, 2, 3, 4, 5, 6, 7, 8, 9, 10, 11)
		d.put(crooked(bad))
		d.runs(1, errArg)
		d.tells()
	}
}

// P15.1: behind an error all are dirty, again and again, and none is seen, till a run has none.
func TestBehindError(t *testing.T) {
	d := laid(t, front(), at(1, 5), at(2, 6), at(3, 7))
	d.put(crooked(2))
	d.tells(1, 3)
	d.runs(1, errArg)
	for range 3 {
		d.tells()
		d.runs(3, errArg)
	}
	d.put(at(4, 8))
	d.tells()
	d.runs(4, errArg)
	d.drop(1)
	d.tells()
	d.runs(3, errArg)
	d.put(at(2, 6))
	d.tells()
	d.runs(3, none)
	d.tells(2, 3, 4)
	d.runs(0, none)
}

// P15.1: an error is over, too, if who had it goes, if the view is another one, or if there is none; all are looked at then.
func TestErrorOver(t *testing.T) {
	for _, c := range []struct {
		mend func(d *double)
		n    int
		want []api.ID
	}{
		{func(d *double) { d.drop(2) }, 2, []api.ID{1, 3}},
		{func(d *double) { d.look(open()) }, 3, []api.ID{1, 2, 3}},
		{func(d *double) { d.look(masked(0)) }, 3, nil},
		{func(d *double) { d.close() }, 3, nil},
		{func(d *double) { d.put(at(2, 5)) }, 3, []api.ID{1, 2, 3}},
		{func(d *double) { d.put(at(2, -5)) }, 3, []api.ID{1, 3}},
		{func(d *double) { d.put(layered(2, 0)) }, 3, []api.ID{1, 3}},
		{func(d *double) { d.drop(1, 2, 3) }, 0, nil},
	} {
		d := laid(t, tight(), at(1, 5), at(3, 7))
		d.put(far(2))
		d.runs(1, errOver)
		c.mend(d)
		d.tells()
		d.runs(c.n, none)
		d.tells(c.want...)
		d.runs(0, none)
		d.tells(c.want...)
	}
}

// P15.1: who has an error in a view has none if its layer isn't in the mask, or if a side ahead doesn't see it.
func TestErrorByView(t *testing.T) {
	d := laid(t, open(), far(1), at(2, 2))
	d.tells(1, 2)
	d.look(tight())
	d.runs(2, errOver)
	d.look(deep())
	d.runs(2, errOver)
	behind := deep()
	behind.Sides = append(behind.Sides, api.Plane{N: api.Vec{-one, 0, 0}, D: 9})
	d.look(behind)
	d.runs(2, none)
	d.tells(2)
	d.look(api.View{Sides: tight().Sides, Eye: along(0), Mask: 254})
	d.runs(2, none)
	d.tells()
}

// P15.1: names are told rising, whatever they are, and in whatever order they were put.
func TestNamesRise(t *testing.T) {
	strange := []api.ID{7, math.MaxInt, -1, 0, 256*65535 + 255, math.MinInt, 257, 1, -256, 1 << 32, 255, 256, math.MinInt + 1, 10, 2}
	want := slices.Sorted(slices.Values(strange))
	for turn := range strange {
		d := laid(t, open())
		for k := range strange {
			d.put(at(strange[(turn+k)%len(strange)], api.F(k)))
		}
		d.runs(len(strange), none)
		d.tells(want...)
		d.put(at(strange[turn], 5))
		d.runs(1, none)
		d.tells(want...)
		if n := d.drop(strange...); n != len(strange) {
			t.Fatalf("Drop: %d", n)
		}
		d.tells()
	}
}

// P15.1: a depth is the lesser end from the eye: 0 and below it, too, and of the least and the greatest number.
func TestDepths(t *testing.T) {
	d := laid(t, open(), from(1, -5, 5), from(2, 0, 9), from(3, 7, 8), from(4, least, 0), far(5), from(6, least, greatest))
	want := []cull.Seen{{ID: 1, Depth: -5}, {ID: 2}, {ID: 3, Depth: 7}, {ID: 4, Depth: least}, {ID: 5, Depth: greatest}, {ID: 6, Depth: least}}
	if l := d.c.Seen(); !slices.Equal(l, want) {
		t.Errorf("Seen: %v, wanted %v", l, want)
	}
	away := open()
	away.Eye = api.Plane{N: api.Vec{-one, 0, 0}, D: 3}
	d.look(away)
	d.drop(4, 6)
	d.runs(4, none)
	want = []cull.Seen{{ID: 1, Depth: -2}, {ID: 2, Depth: -6}, {ID: 3, Depth: -5}, {ID: 5, Depth: 3 - greatest}}
	if l := d.c.Seen(); !slices.Equal(l, want) {
		t.Errorf("Seen: %v, wanted %v", l, want)
	}
}

// P15.1: who is seen is seen in all ways that the view has: eight sides, each of which may leave one out, and the mask.
func TestSides(t *testing.T) {
	v := open()
	for place := range 3 {
		up, down := api.Plane{D: 10}, api.Plane{D: 10}
		up.N[place], down.N[place] = one, -one
		v.Sides = append(v.Sides, up, down)
	}
	v.Sides = append(v.Sides, api.Plane{N: api.Vec{one, one, 0}, D: 15}, api.Plane{N: api.Vec{-one, -one, 0}, D: 15})
	d := laid(t, v)
	id := api.ID(0)
	eachRow(3, 5, func(row []int) {
		id++
		r := at(id, 0)
		for place, n := range row {
			r.Box.Min[place] = api.F(6*n - 12)
			r.Box.Max[place] = api.F(6*n - 12)
		}
		d.put(r)
	})
	d.runs(125, none)
	// Within 10 at each place are 3 of 5 numbers: -6, 0, 6; and all pairs of these have sums within 15.
	if n := len(d.c.Seen()); n != 27 {
		t.Errorf("%d are seen", n)
	}
	v.Sides[6].D, v.Sides[7].D = 11, 5
	d.look(v)
	d.runs(125, none)
	// Of nine pairs one has the sum -12, and three have 6 or 12.
	if n := len(d.c.Seen()); n != 15 {
		t.Errorf("%d are seen", n)
	}
}

// eachRow gives all rows of so many numbers from 0 to below.
func eachRow(count, below int, each func(row []int)) {
	row := make([]int, count)
	for {
		each(row)
		place := 0
		for place < count && row[place] == below-1 {
			row[place] = 0
			place++
		}
		if place == count {
			return
		}
		row[place]++
	}
}

// P15.1: steps count on, those of runs with an error and without a view, too; nothing but a run counts.
func TestSteps(t *testing.T) {
	d := empty(t)
	total := 0
	counts := func(n int, e api.Errno) {
		t.Helper()
		d.runs(n, e)
		total += n
		if got := d.c.Steps(); got != total {
			t.Fatalf("Steps: %d, wanted %d", got, total)
		}
	}
	counts(0, none)
	d.put(at(1, 1), at(2, 2))
	counts(2, none)
	d.look(front())
	counts(2, none)
	counts(0, none)
	d.put(crooked(3))
	counts(1, errArg)
	counts(3, errArg)
	d.drop(3)
	counts(2, none)
	d.look(open())
	d.look(front())
	d.close()
	counts(2, none)
	d.drop(1, 2)
	counts(0, none)
	d.look(front())
	counts(0, none)
	if total != 12 {
		t.Errorf("Steps: %d", total)
	}
}

// P15.1: on a nil cull ErrArg, nothing, false and 0.
func TestNil(t *testing.T) {
	var c *cull.Cull
	for range 2 {
		for _, v := range []api.View{{}, open(), front(), masked(256)} {
			if is, e := c.Look(v); is || e != errArg {
				t.Errorf("Look: %t %d", is, e)
			}
		}
		c.Close()
		c.Put()
		c.Put(at(1, 1), crooked(2))
		if c.Drop() != 0 || c.Drop(1, 2) != 0 {
			t.Error("Drop: not 0")
		}
		if n, e := c.Run(); n != 0 || e != errArg {
			t.Errorf("Run: %d %d", n, e)
		}
		if len(c.Seen()) != 0 || c.Steps() != 0 {
			t.Errorf("Seen: %v, Steps: %d", c.Seen(), c.Steps())
		}
	}
}

// P15.1: a view's sides aren't kept: who changes them behind the call changes nothing, whether the view was another one or the same.
func TestSidesChanged(t *testing.T) {
	c := cull.New()
	away := api.Plane{N: api.Vec{-one, 0, 0}}
	sides := []api.Plane{along(0), along(0)}
	v := api.View{Sides: sides[:1], Eye: along(0), Mask: 255}
	looks := func(v api.View, want bool) {
		t.Helper()
		if is, e := c.Look(v); is != want || e != none {
			t.Fatalf("Look(%v): %t %d", v, is, e)
		}
	}
	sees := func(want int) {
		t.Helper()
		c.Put(at(1, 5), at(2, -5), at(3, 6))
		if _, e := c.Run(); e != none || len(c.Seen()) != want {
			t.Fatalf("Run: %d %v", e, c.Seen())
		}
	}
	looks(v, true)
	sides[0], sides[1] = away, away
	sees(2)
	looks(v, true)
	sees(1)
	sides[0] = along(0)
	sees(1)
	looks(v, true)
	again := api.View{Sides: []api.Plane{along(0)}, Eye: along(0), Mask: 255}
	looks(again, false)
	again.Sides[0] = api.Plane{N: api.Vec{greatest + 1, 0, 0}}
	sees(2)
	looks(front(), false)
}

// P15.1: what lies behind a list's length is neither read nor written, and a list is not written into, nor kept.
func TestBehindLength(t *testing.T) {
	sides := []api.Plane{along(0), along(-9), {N: api.Vec{greatest + 1, 0, 0}}}
	records := []record.Record{at(1, 5), at(2, 7), crooked(3), crooked(1)}
	names := []api.ID{2, 9, 1}
	sidesWere, recordsWere, namesWere := slices.Clone(sides), slices.Clone(records), slices.Clone(names)
	c := cull.New()
	if is, e := c.Look(api.View{Sides: sides[:1], Eye: along(0), Mask: 255}); !is || e != none {
		t.Fatalf("Look: %t %d", is, e)
	}
	c.Put(records[:2]...)
	if n, e := c.Run(); n != 2 || e != none || len(c.Seen()) != 2 {
		t.Fatalf("Run: %d %d %v", n, e, c.Seen())
	}
	if n := c.Drop(names[:2]...); n != 1 || len(c.Seen()) != 1 {
		t.Fatalf("Drop: %d %v", n, c.Seen())
	}
	c.Close()
	if n, e := c.Run(); n != 1 || e != none {
		t.Fatalf("Run: %d %d", n, e)
	}
	if !slices.Equal(sides, sidesWere) || !slices.Equal(records, recordsWere) || !slices.Equal(names, namesWere) {
		t.Errorf("written: %v %v %v", sides, records, names)
	}
}

// P15.1: records that were put are had as they were then: who changes the list behind the call changes nothing.
func TestPutChanged(t *testing.T) {
	c := cull.New()
	c.Look(front())
	l := []record.Record{at(1, 5), at(2, 6)}
	c.Put(l...)
	l[0], l[1] = crooked(1), at(2, -6)
	want := []cull.Seen{{ID: 1, Depth: 5}, {ID: 2, Depth: 6}}
	if n, e := c.Run(); n != 2 || e != none || !slices.Equal(c.Seen(), want) {
		t.Fatalf("Run: %d %d %v", n, e, c.Seen())
	}
	c.Look(open())
	if n, e := c.Run(); n != 2 || e != none || !slices.Equal(c.Seen(), want) {
		t.Fatalf("Run: %d %d %v", n, e, c.Seen())
	}
}

// P15.1: a list of those that are seen is new memory: who writes into it, or adds to it, changes nothing, and it stays as it was.
func TestSeenChanged(t *testing.T) {
	d := laid(t, front(), at(1, 5), at(2, 6), at(3, 7))
	first := d.c.Seen()
	want := slices.Clone(first)
	second := d.c.Seen()
	second[0], second[2] = cull.Seen{ID: 9, Depth: 9}, cull.Seen{}
	_ = append(second[:1], cull.Seen{ID: 8, Depth: 8})
	d.tells(1, 2, 3)
	d.put(at(0, 1), at(2, -6))
	d.drop(3)
	d.tells(1)
	d.runs(2, none)
	d.tells(0, 1)
	d.close()
	d.runs(3, none)
	if !slices.Equal(first, want) {
		t.Errorf("changed: %v, wanted %v", first, want)
	}
}

// P15.1 (P2): two culls, each told in turn, have nothing of one another: neither view, nor records, nor steps.
func TestTwoCulls(t *testing.T) {
	a, b := empty(t), empty(t)
	a.look(front())
	a.put(at(1, 5), at(2, -6))
	b.put(at(2, 6), crooked(3))
	b.runs(2, none)
	a.runs(2, none)
	a.tells(1)
	b.look(open())
	a.same()
	b.runs(2, errArg)
	a.same()
	a.runs(0, none)
	a.drop(1, 3)
	b.drop(3)
	b.runs(1, none)
	b.tells(2)
	a.close()
	b.runs(0, none)
	b.tells(2)
	a.runs(1, none)
	a.tells()
}

// P15.1 (P2): the same acts have the same answers, each time, whatever order a map is gone through in.
func TestSameAgain(t *testing.T) {
	var first []cull.Seen
	for turn := range 30 {
		d := laid(t, tight())
		next := draw()
		for range 100 {
			d.put(at(api.ID(next(90)), api.F(next(1000)-500)))
		}
		d.run()
		if turn == 0 {
			first = d.c.Seen()
		}
		if l := d.c.Seen(); len(l) < 20 || !slices.Equal(l, first) {
			t.Fatalf("Seen: %v, first %v", l, first)
		}
		for k := range 20 {
			if k%2 == 0 {
				d.put(crooked(api.ID(4 * next(30))))
			} else {
				d.put(far(api.ID(4*next(30) + 1)))
			}
		}
		d.run()
		d.run()
	}
}

// P15.2: a run looks at those alone that were put, however many others there are; behind a changed view at all, once.
func TestOnlyWhatChanged(t *testing.T) {
	const many = 3000
	d := laid(t, front())
	var l []record.Record
	for k := range many {
		l = append(l, at(api.ID(k*257), api.F(k%100-50)))
	}
	d.put(l...)
	d.runs(many, none)
	d.runs(0, none)
	for k := range 20 {
		d.put(l[k*100+50])
		d.runs(1, none)
	}
	d.put(l[10:40]...)
	d.drop(l[20].ID, l[30].ID)
	d.runs(28, none)
	d.look(open())
	d.runs(many-2, none)
	d.put(at(l[1999].ID, 3))
	d.runs(1, none)
	d.close()
	d.runs(many-2, none)
	d.runs(0, none)
}

// P15.2: behind a run without an error, whatever was done ahead of it, a run with nothing put looks at none, and changes nothing; Drop makes none dirty.
func TestSecondRun(t *testing.T) {
	for _, v := range []api.View{open(), front(), tight(), deep(), masked(0), masked(2), numbered(8)} {
		d := laid(t, v, at(1, 5), layered(2, 2), at(3, -3))
		for range 3 {
			d.runs(0, none)
		}
		d.drop(2)
		d.runs(0, none)
		d.put()
		d.drop(2, 77)
		d.look(v)
		d.look(masked(-1))
		d.runs(0, none)
	}
}

// P15.2: in an error, too, a run is as that of a new cull, and the next one again.
func TestAnewWithError(t *testing.T) {
	d := laid(t, tight(), at(1, 5), at(2, 6), at(3, 7), at(4, -8))
	d.put(far(3))
	d.runs(1, errOver)
	d.runs(4, errOver)
	d.put(crooked(2))
	d.runs(4, errArg)
	d.put(crooked(4))
	d.runs(4, errArg)
	d.put(at(2, 1))
	d.runs(4, errOver)
	d.look(open())
	d.runs(4, errArg)
	d.drop(4)
	d.runs(3, none)
	d.tells(1, 2, 3)
}

// act does one thing with a cull and its double.
type act func(d *double)

// acts are such that few records have each answer: seen and not, by the view, with an error in each, and in some.
func acts() []act {
	return []act{
		func(d *double) { d.look(open()) },
		func(d *double) { d.look(tight()) },
		func(d *double) { d.look(masked(256)) },
		func(d *double) { d.close() },
		func(d *double) { d.put(at(1, 5)) },
		func(d *double) { d.put(at(1, -5), at(2, 7)) },
		func(d *double) { d.put(crooked(2)) },
		func(d *double) { d.put(crooked(1), far(1)) },
		func(d *double) { d.drop(1) },
		func(d *double) { d.drop(2, 2) },
		func(d *double) { d.run() },
	}
}

// starts are what the short rows of acts begin with.
func starts() []act {
	return []act{
		func(d *double) {},
		func(d *double) { d.look(tight()); d.put(at(1, 5), at(2, 6), at(3, 7)); d.run() },
		func(d *double) { d.look(open()); d.put(at(1, 5), crooked(2)); d.run() },
		func(d *double) { d.look(open()); d.put(far(1), at(2, -7)); d.run(); d.look(tight()) },
		func(d *double) { d.put(far(1), crooked(2), at(3, 1)); d.run() },
	}
}

// P15.1, P15.2: all rows of four acts, from each of some beginnings on, and a run behind each.
func TestEachRow(t *testing.T) {
	l := acts()
	for _, start := range starts() {
		eachRow(4, len(l), func(row []int) {
			d := empty(t)
			start(d)
			for _, k := range row {
				l[k](d)
			}
			d.run()
		})
	}
}

// tally is how often things came to pass in long rows.
type tally struct {
	fine, failed, several, part, idle, closed, other, same int
}

// anyView is one of some views, or a dealt one, that may be.
func anyView(next func(below int) int) api.View {
	switch next(8) {
	case 0:
		return open()
	case 1:
		return front()
	case 2:
		return tight()
	case 3:
		return deep()
	case 4:
		return masked(1 << next(9) & 255)
	}
	v := api.View{Mask: next(256), Eye: anyPlane(next)}
	for range next(4) {
		v.Sides = append(v.Sides, anyPlane(next))
	}
	return v
}

// anyPlane is one whose distances are small, most of them not below 0.
func anyPlane(next func(below int) int) (p api.Plane) {
	for place := range 3 {
		p.N[place] = api.F(next(4*one) - 2*one)
	}
	p.D = api.F(next(400) - 50)
	return p
}

// anyRecord is one that is near, but for one in so many, which has an error, in each view or in some.
func anyRecord(next func(below int) int, id api.ID, faults int) record.Record {
	switch next(2 * faults) {
	case 0:
		return crooked(id)
	case 1:
		return far(id)
	}
	r := record.Record{ID: id, Mesh: next(256), Pipe: next(64), Material: next(256), Clear: next(2) == 0, Layer: next(256)}
	for place := range 3 {
		low := api.F(next(400) - 200)
		r.Box.Min[place], r.Box.Max[place] = low, low+api.F(next(50))
	}
	return r
}

// step does some act, with names below count.
func (d *double) step(next func(below int) int, count, faults int, n *tally) {
	d.t.Helper()
	name := func() api.ID { return api.ID(next(count)) }
	switch next(16) {
	case 0:
		n.other++
		if !d.look(anyView(next)) {
			n.other--
			n.same++
		}
	case 1:
		d.look(d.view)
		n.same++
	case 2:
		if next(3) == 0 {
			d.close()
			n.closed++
		}
	case 3:
		l := wrongViews()
		d.look(l[next(len(l))])
	case 4, 5, 6, 7:
		d.put(anyRecord(next, name(), faults))
	case 8, 9:
		var l []record.Record
		for range next(6) {
			l = append(l, anyRecord(next, name(), faults))
		}
		d.put(l...)
	case 10, 11:
		var l []api.ID
		for range next(5) {
			l = append(l, name())
		}
		d.drop(l...)
	default:
		d.counted(n)
	}
}

// counted runs, and counts what came to pass.
func (d *double) counted(n *tally) {
	d.t.Helper()
	faults, all := d.faults(), len(d.records)
	due, e := d.run()
	switch {
	case e != none && faults > 1:
		n.several++
	case e != none:
		n.failed++
	case due == 0 && all > 0:
		n.idle++
	case due < all && len(d.found) > 0:
		n.part++
	case len(d.found) > 0:
		n.fine++
	}
}

// P15.1, P15.2: long rows of acts with few names and with many, few faults and many, each answer held against the account, and each run against new culls.
func TestRows(t *testing.T) {
	next := draw()
	for _, c := range []struct{ count, faults, rows, steps int }{
		{1, 5, 60, 60}, {2, 5, 60, 60}, {4, 12, 80, 100}, {12, 25, 60, 150}, {60, 60, 20, 200}, {300, 120, 6, 300},
	} {
		var n tally
		for range c.rows {
			d := empty(t)
			for range c.steps {
				d.step(next, c.count, c.faults, &n)
			}
		}
		for _, m := range []int{n.failed, n.idle, n.closed, n.other, n.same, n.fine} {
			if m < 10 {
				t.Errorf("%v: too rare: %v", c, n)
			}
		}
		if c.count > 1 && (n.several < 5 || n.part < 10) {
			t.Errorf("%v: too rare: %v", c, n)
		}
	}
}
