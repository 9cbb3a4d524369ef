package extract_test

import (
	"maps"
	"math"
	"slices"
	"testing"

	"gesso/api"
	"gesso/extract"
	"gesso/record"
	"gesso/scene"
)

// The limits as the document writes them, so that a test leans on no constant of the program.
const (
	least    = -2147483648
	greatest = 2147483647
	one      = 65536
	deepest  = 16
	maxRoom  = 256
	sets     = 32
	drawable = 7 // place, shape and paint
)

// being is an entity that is kept by hand.
type being struct {
	parent api.ID // -1, if it has none
	p      api.Parts
	tick   int
}

// going is who went, and when.
type going struct {
	id   api.ID
	tick int
}

// state is where an entity is, and whether it is shown.
type state struct {
	world api.Mat
	shown bool
}

// world is a scene, and an extract of it, and both by the document's words.
// What is made anew is made of a twin of the scene, so that the scene's tick is moved by its own extract alone.
type world struct {
	t       *testing.T
	s, twin *scene.Scene
	x       *extract.Extract
	all     map[api.ID]*being
	gone    []going
	tick    int

	seen    int
	records map[api.ID]record.Record
	slots   map[api.ID]int
	steps   int
}

// made is a scene without entities, and an extract of nothing.
func made(t *testing.T, room int) *world {
	t.Helper()
	s, _ := scene.New(room)
	twin, e := scene.New(room)
	x := extract.New()
	if s == nil || twin == nil || e != api.OK || x == nil {
		t.Fatalf("New: %v %d %v", s, e, x)
	}
	w := &world{t: t, s: s, twin: twin, x: x, all: map[api.ID]*being{}, tick: 1}
	w.forgotten()
	return w
}

// grown is a scene with an entity of these parts for each of these parents, or -1, that was synced, of which there is no error.
func grown(t *testing.T, room int, p func(n int) api.Parts, parents ...api.ID) *world {
	t.Helper()
	w := made(t, room)
	w.grow(p, parents...)
	w.fine()
	return w
}

// grow lets entities come, first all of them, so that each may hang on each.
func (w *world) grow(p func(n int) api.Parts, parents ...api.ID) {
	w.t.Helper()
	for n := range parents {
		w.spawn(p(n), -1)
	}
	for n, parent := range parents {
		if parent >= 0 && w.adopt(api.ID(n), parent) != api.OK {
			w.t.Fatalf("no forest: %v", parents)
		}
	}
}

// forgotten is the extract by hand, when it has nothing; its steps count on.
func (w *world) forgotten() {
	w.seen, w.records, w.slots = 0, map[api.ID]record.Record{}, map[api.ID]int{}
}

// has tells whether a set has a kind, by its bit.
func has(s api.Set, kind int) bool { return s>>kind&1 == 1 }

// lay writes q's values of a kind over p's, written out.
func lay(p, q api.Parts, kind int) api.Parts {
	switch kind {
	case 0:
		p.Place = q.Place
	case 1:
		p.Mesh, p.Box = q.Mesh, q.Box
	case 2:
		p.Pipe, p.Material, p.Clear = q.Pipe, q.Material, q.Clear
	case 3:
		p.Layer = q.Layer
	}
	p.Has |= 1 << kind
	return p
}

// pick is, of each kind of a set, p's values.
func pick(p api.Parts, s api.Set) (out api.Parts) {
	for kind := range 5 {
		if has(s, kind) {
			out = lay(out, p, kind)
		}
	}
	return out
}

// listed are a set's kinds, rising.
func listed(s api.Set) (l []api.Kind) {
	for kind := range 5 {
		if has(s, kind) {
			l = append(l, api.Kind(kind))
		}
	}
	return l
}

// shift moves by numbers.
func shift(x, y, z api.F) api.Mat {
	return api.Mat{one, 0, 0, x, 0, one, 0, y, 0, 0, one, z}
}

// wide scales all by so much.
func wide(n api.F) api.Mat {
	return api.Mat{n * one, 0, 0, 0, 0, n * one, 0, 0, 0, 0, n * one, 0}
}

// places leave products and boxes small.
func places() []api.Mat {
	return []api.Mat{
		shift(0, 0, 0),
		shift(one, -2*one, 3),
		{0, -one, 0, 5 * one, one, 0, 0, 0, 0, 0, one, 0},
		{-one, 0, 0, 7, 0, one / 2, 0, 9, 0, 0, one / 3, 11},
		{},
		shift(-3*one, 0, one/2),
	}
}

// full has all kinds; each of its values is another one, and those of another n are others.
func full(n int) api.Parts {
	p := api.Parts{Has: 31, Mesh: (n + 3) % 256, Pipe: (n + 4) % 64, Material: (n + 5) % 256, Clear: n%2 == 1, Layer: (n + 6) % 256}
	p.Place = places()[n%len(places())]
	for place := range 3 {
		p.Box.Min[place], p.Box.Max[place] = api.F(-100*n-3-place), api.F(1000*n+4+place)
	}
	return p
}

// seen has all kinds but hide.
func seen(n int) api.Parts { return pick(full(n), 15) }

// moved has what is drawn, moved by 1, and nothing else.
func moved(int) api.Parts {
	return api.Parts{Has: drawable, Place: shift(one, 0, 0)}
}

// big is drawn, with a box of 9 at its place, which some worlds carry over what may be.
func big(place api.Mat) api.Parts {
	return api.Parts{Has: drawable, Place: place, Box: api.Box{Max: api.Vec{9 * one, 0, 0}}}
}

// fits tells whether whole numbers may be of the program.
func fits(l ...int) bool {
	return slices.Min(l) >= least && slices.Max(l) <= greatest
}

// product is that of two matrices by hand; false if something runs over.
func product(a, b api.Mat) (out api.Mat, ok bool) {
	for at := range out {
		row, place := at/4, at%4
		sum := 0
		if place == 3 {
			sum = int(a[at])
		}
		for k := range 3 {
			x := int(a[4*row+k]) * int(b[4*k+place]) >> 16
			if !fits(x) {
				return api.Mat{}, false
			}
			sum += x
		}
		if !fits(sum) {
			return api.Mat{}, false
		}
		out[at] = api.F(sum)
	}
	return out, true
}

// carried is a box, carried by hand; false if something runs over.
func carried(m api.Mat, b api.Box) (out api.Box, ok bool) {
	for row := range 3 {
		low, high := int(m[4*row+3]), int(m[4*row+3])
		for place := range 3 {
			x := int(m[4*row+place]) * int(b.Min[place]) >> 16
			y := int(m[4*row+place]) * int(b.Max[place]) >> 16
			if !fits(x, y) {
				return api.Box{}, false
			}
			low += min(x, y)
			high += max(x, y)
		}
		if !fits(low, high) {
			return api.Box{}, false
		}
		out.Min[row], out.Max[row] = api.F(low), api.F(high)
	}
	return out, true
}

// rising are names, each one once.
func rising(l ...api.ID) []api.ID {
	return slices.Compact(slices.Sorted(slices.Values(l)))
}

// ids are all that live, rising.
func (w *world) ids() []api.ID { return slices.Sorted(maps.Keys(w.all)) }

// line is an entity, and behind it its parent, that one's parent, and so on.
func (w *world) line(id api.ID) (l []api.ID) {
	for b := w.all[id]; b != nil; b = w.all[id] {
		l = append(l, id)
		id = b.parent
	}
	return l
}

// both does something to the scene and to its twin, which must tell the same.
func (w *world) both(do func(s *scene.Scene) (api.ID, api.Errno)) (api.ID, api.Errno) {
	w.t.Helper()
	id, e := do(w.s)
	if other, f := do(w.twin); other != id || f != e {
		w.t.Fatalf("%d %d, and of the twin %d %d", id, e, other, f)
	}
	return id, e
}

// spawn lets one come.
func (w *world) spawn(p api.Parts, parent api.ID) api.ID {
	w.t.Helper()
	id, e := w.both(func(s *scene.Scene) (api.ID, api.Errno) { return s.Spawn(p, parent) })
	if e == api.OK {
		w.all[id] = &being{max(parent, -1), p, w.tick}
	}
	return id
}

// despawn lets one go.
func (w *world) despawn(id api.ID) {
	w.t.Helper()
	_, e := w.both(func(s *scene.Scene) (api.ID, api.Errno) { return 0, s.Despawn(id) })
	if e != api.OK {
		return
	}
	delete(w.all, id)
	w.gone = append(w.gone, going{id, w.tick})
	for _, b := range w.all {
		if b.parent == id {
			b.parent, b.tick = -1, w.tick
		}
	}
}

// put puts kinds.
func (w *world) put(id api.ID, p api.Parts, l ...api.Kind) {
	w.t.Helper()
	_, e := w.both(func(s *scene.Scene) (api.ID, api.Errno) { return 0, s.Put(id, p, l...) })
	if b := w.all[id]; e == api.OK {
		for _, kind := range l {
			b.p = lay(b.p, p, int(kind))
		}
		b.tick = w.tick
	}
}

// cut cuts kinds.
func (w *world) cut(id api.ID, l ...api.Kind) {
	w.t.Helper()
	_, e := w.both(func(s *scene.Scene) (api.ID, api.Errno) { return 0, s.Cut(id, l...) })
	if b := w.all[id]; e == api.OK {
		for _, kind := range l {
			b.p = pick(b.p, b.p.Has&^(1<<kind))
		}
		b.tick = w.tick
	}
}

// hide hides one.
func (w *world) hide(id api.ID) {
	w.t.Helper()
	w.put(id, api.Parts{Has: 16}, api.Hide)
}

// show shows one.
func (w *world) show(id api.ID) {
	w.t.Helper()
	w.cut(id, api.Hide)
}

// place puts a place.
func (w *world) place(id api.ID, m api.Mat) {
	w.t.Helper()
	w.put(id, api.Parts{Has: 1, Place: m}, api.Place)
}

// adopt gives a child a parent.
func (w *world) adopt(child, parent api.ID) api.Errno {
	w.t.Helper()
	_, e := w.both(func(s *scene.Scene) (api.ID, api.Errno) { return 0, s.Adopt(child, parent) })
	if b := w.all[child]; e == api.OK {
		b.parent, b.tick = parent, w.tick
	}
	return e
}

// free frees a child.
func (w *world) free(child api.ID) {
	w.t.Helper()
	_, e := w.both(func(s *scene.Scene) (api.ID, api.Errno) { return 0, s.Free(child) })
	if b := w.all[child]; e == api.OK && b.parent >= 0 {
		b.parent, b.tick = -1, w.tick
	}
}

// next moves the scene's tick past its extract.
func (w *world) next() {
	w.t.Helper()
	w.tick++
	if n := w.s.Next(); n != w.tick {
		w.t.Fatalf("Next: %d, wanted %d", n, w.tick)
	}
}

// fate is an entity's state, whether it has one, and the error, if it fails.
func (w *world) fate(id api.ID) (state, bool, api.Errno) {
	b := w.all[id]
	place, hidden := shift(0, 0, 0), has(b.p.Has, 4)
	if has(b.p.Has, 0) {
		place = b.p.Place
	}
	if b.parent < 0 {
		return state{place, !hidden}, true, api.OK
	}
	above, ok, _ := w.fate(b.parent)
	if !ok {
		return state{}, false, api.OK
	}
	if len(w.line(id)) > deepest {
		return state{}, false, api.ErrDeep
	}
	m, ok := product(above.world, place)
	if !ok {
		return state{}, false, api.ErrOver
	}
	return state{m, above.shown && !hidden}, true, api.OK
}

// drawn is an entity's record, whether it has one, and its error; there are states.
func (w *world) drawn(id api.ID) (record.Record, bool, api.Errno) {
	p := w.all[id].p
	s, _, _ := w.fate(id)
	if p.Has&drawable != drawable || !s.shown {
		return record.Record{}, false, api.OK
	}
	box, ok := carried(s.world, p.Box)
	if !ok {
		return record.Record{}, false, api.ErrOver
	}
	layer := 1
	if has(p.Has, 3) {
		layer = p.Layer
	}
	return record.Record{ID: id, Mesh: p.Mesh, Pipe: p.Pipe, Material: p.Material, Clear: p.Clear, Layer: layer, Box: box}, true, api.OK
}

// due are those that a sync touches: who changed, or has somebody above that changed.
func (w *world) due() (l []api.ID) {
	for _, id := range w.ids() {
		if slices.ContainsFunc(w.line(id), func(up api.ID) bool { return w.all[up].tick > w.seen }) {
			l = append(l, id)
		}
	}
	return l
}

// went are those that went since what the extract has seen.
func (w *world) went() (l []api.ID) {
	for _, g := range w.gone {
		if g.tick > w.seen {
			l = append(l, g.id)
		}
	}
	return l
}

// failure is the flow's error: that of the least name that fails.
func (w *world) failure() api.Errno {
	for _, id := range w.ids() {
		if _, _, e := w.fate(id); e != api.OK {
			return e
		}
	}
	return api.OK
}

// renew makes the records anew by hand, and tells the error of the least name that has one.
func (w *world) renew(touched, went []api.ID) api.Errno {
	for _, id := range went {
		delete(w.records, id)
	}
	for _, id := range touched {
		delete(w.records, id)
		r, ok, e := w.drawn(id)
		if e != api.OK {
			return e
		}
		if ok {
			w.records[id] = r
		}
	}
	return api.OK
}

// settle takes and gives slots by hand.
func (w *world) settle() {
	had := map[int]bool{}
	for id, slot := range w.slots {
		if _, ok := w.records[id]; !ok {
			delete(w.slots, id)
			continue
		}
		had[slot] = true
	}
	for _, r := range w.list() {
		if _, ok := w.slots[r.ID]; ok {
			continue
		}
		slot := 0
		for had[slot] {
			slot++
		}
		w.slots[r.ID], had[slot] = slot, true
	}
}

// list are the records by hand, by names.
func (w *world) list() (l []record.Record) {
	for _, id := range slices.Sorted(maps.Keys(w.records)) {
		l = append(l, w.records[id])
	}
	return l
}

// follow syncs by hand: the names, and the error.
func (w *world) follow() ([]api.ID, api.Errno) {
	touched, went := w.due(), w.went()
	names := rising(append(went, touched...)...)
	w.steps += len(names)
	w.tick++
	e := w.failure()
	if e == api.OK {
		e = w.renew(touched, went)
	}
	if e != api.OK {
		w.forgotten()
		return nil, e
	}
	w.settle()
	w.seen = w.tick - 1
	return names, api.OK
}

// sync syncs in both, and lets a new extract sync.
func (w *world) sync() ([]api.ID, api.Errno) {
	w.t.Helper()
	names, want := w.follow()
	l, e := w.x.Sync(w.s)
	if !slices.Equal(l, names) || e != want {
		w.t.Fatalf("Sync: %v %d, wanted %v %d", l, e, names, want)
	}
	w.same()
	w.anew(want)
	return l, e
}

// fine syncs without an error.
func (w *world) fine() {
	w.t.Helper()
	if _, e := w.sync(); e != api.OK {
		w.t.Fatalf("Sync: %d", e)
	}
}

// tells syncs without an error, and tells just these names.
func (w *world) tells(want ...api.ID) {
	w.t.Helper()
	if l, e := w.sync(); e != api.OK || !slices.Equal(l, want) {
		w.t.Fatalf("Sync: %v %d, wanted %v", l, e, want)
	}
}

// fails syncs with this error.
func (w *world) fails(want api.Errno) {
	w.t.Helper()
	if l, e := w.sync(); e != want || len(l) != 0 {
		w.t.Fatalf("Sync: %v %d, wanted %d", l, e, want)
	}
	if r := w.x.Records(); len(r) != 0 {
		w.t.Fatalf("Records: %v", r)
	}
}

// forget forgets in both.
func (w *world) forget() {
	w.t.Helper()
	w.forgotten()
	w.x.Forget()
	w.same()
}

// farNames are numbers that are no names, and names that a pool gives late; some would be 0 or 1 if they were cut short.
func farNames() []api.ID {
	return []api.ID{-1, -2, -255, -256, math.MinInt, math.MinInt + 1, math.MaxInt, 1 << 24, 1<<24 + 1, 1<<24 - 1, 1 << 32, 1<<32 + 1, -1 << 32, -1<<32 + 1, 65535 * 256, least, greatest}
}

// asked are names of all kinds: that live, that went, of other generations, and far ones.
func (w *world) asked() []api.ID {
	l := append(w.ids(), farNames()...)
	for _, g := range w.gone[max(0, len(w.gone)-20):] {
		l = append(l, g.id, g.id+256, g.id+512)
	}
	for _, id := range w.ids() {
		l = append(l, id+256, id-256, id+1, -id)
	}
	return rising(l...)
}

// same asks for all that an extract tells, and holds it against what is kept by hand.
func (w *world) same() {
	w.t.Helper()
	if r := w.x.Records(); !slices.Equal(r, w.list()) {
		w.t.Fatalf("Records: %v, wanted %v", r, w.list())
	}
	for _, id := range w.asked() {
		want, ok := w.slots[id]
		if !ok {
			want = -1
		}
		if n := w.x.Slot(id); n != want {
			w.t.Fatalf("Slot(%d): %d, wanted %d", id, n, want)
		}
	}
	if n := w.x.Steps(); n != w.steps {
		w.t.Fatalf("Steps: %d, wanted %d", n, w.steps)
	}
	if n := w.s.Tick(); n != w.tick {
		w.t.Fatalf("Tick: %d, wanted %d", n, w.tick)
	}
}

// anew lets a new extract sync with the twin: its error and its records must be those of this one; it touches all, and gives slots by names.
func (w *world) anew(want api.Errno) {
	w.t.Helper()
	x, tick := extract.New(), w.twin.Tick()
	l, e := x.Sync(w.twin)
	if e != want || w.twin.Tick() != tick+1 {
		w.t.Fatalf("anew: Sync: %v %d, wanted %d", l, e, want)
	}
	all := x.Records()
	if got := w.x.Records(); !slices.Equal(got, all) {
		w.t.Fatalf("Records: %v, anew %v", got, all)
	}
	names := w.ids()
	for _, g := range w.gone {
		names = append(names, g.id)
	}
	if names = rising(names...); x.Steps() != len(names) || e == api.OK && !slices.Equal(l, names) {
		w.t.Fatalf("anew: Sync: %v, Steps: %d, wanted %v", l, x.Steps(), names)
	}
	for n, r := range all {
		if slot := x.Slot(r.ID); slot != n {
			w.t.Fatalf("anew: Slot(%d): %d, wanted %d", r.ID, slot, n)
		}
	}
}

// slot lets a name have this slot, or -1.
func (w *world) slot(id api.ID, want int) {
	w.t.Helper()
	if n := w.x.Slot(id); n != want {
		w.t.Fatalf("Slot(%d): %d, wanted %d", id, n, want)
	}
}

// draw gives numbers by a fixed rule.
func draw() func(below int) int {
	state := uint32(2463534242)
	return func(below int) int {
		state ^= state << 13
		state ^= state >> 17
		state ^= state << 5
		return int(state>>1) % below
	}
}

// P13.1: a new extract has no records, no slots, no steps; of an empty scene it touches nobody, and moves the tick.
func TestNew(t *testing.T) {
	for _, room := range []int{0, 1, 17, maxRoom} {
		w := made(t, room)
		w.same()
		for n := range 3 {
			w.tells()
			if tick := w.s.Tick(); tick != n+2 {
				t.Errorf("Tick: %d", tick)
			}
		}
	}
}

// P13.1: answers that are written out, from a new extract on.
func TestWrittenOut(t *testing.T) {
	s, _ := scene.New(8)
	x := extract.New()
	box := api.Box{Min: api.Vec{-one, 0, 0}, Max: api.Vec{one, 2 * one, 0}}
	turned := api.Mat{0, -one, 0, 0, one, 0, 0, 0, 0, 0, one, 0}
	s.Spawn(api.Parts{Has: 1, Place: shift(10*one, 0, 0)}, -1)
	s.Spawn(api.Parts{Has: 7, Place: turned, Mesh: 3, Box: box, Pipe: 4, Material: 5, Clear: true}, 0)
	s.Spawn(api.Parts{Has: 15, Place: shift(0, 7, 0), Mesh: 6, Box: box, Pipe: 7, Material: 8, Layer: 0}, 1)
	s.Spawn(api.Parts{Has: 23}, -1)
	s.Spawn(api.Parts{Has: 7}, 3)
	s.Next()
	s.Next()
	l, e := x.Sync(s)
	if e != api.OK || !slices.Equal(l, []api.ID{0, 1, 2, 3, 4}) || s.Tick() != 4 || x.Steps() != 5 {
		t.Fatalf("Sync: %v %d, Tick: %d, Steps: %d", l, e, s.Tick(), x.Steps())
	}
	first := record.Record{ID: 1, Mesh: 3, Pipe: 4, Material: 5, Clear: true, Layer: 1, Box: api.Box{Min: api.Vec{8 * one, -one, 0}, Max: api.Vec{10 * one, one, 0}}}
	second := record.Record{ID: 2, Mesh: 6, Pipe: 7, Material: 8, Layer: 0, Box: api.Box{Min: api.Vec{8*one - 7, -one, 0}, Max: api.Vec{10*one - 7, one, 0}}}
	if r := x.Records(); !slices.Equal(r, []record.Record{first, second}) {
		t.Errorf("Records: %v", r)
	}
	s.Cut(3, api.Hide)
	s.Despawn(1)
	l, e = x.Sync(s)
	if e != api.OK || !slices.Equal(l, []api.ID{1, 2, 3, 4}) || s.Tick() != 5 || x.Steps() != 9 {
		t.Fatalf("Sync: %v %d, Tick: %d, Steps: %d", l, e, s.Tick(), x.Steps())
	}
	second.Box = api.Box{Min: api.Vec{-one, 7, 0}, Max: api.Vec{one, 2*one + 7, 0}}
	if r := x.Records(); !slices.Equal(r, []record.Record{second, {ID: 3, Layer: 1}, {ID: 4, Layer: 1}}) {
		t.Errorf("Records: %v", r)
	}
	for n, want := range []int{-1, -1, 1, 0, 2, -1} {
		if slot := x.Slot(api.ID(n)); slot != want {
			t.Errorf("Slot(%d): %d, wanted %d", n, slot, want)
		}
	}
}

// P13.1: the first sync touches all that live, whenever they changed, and tells all that ever went.
func TestFirstSync(t *testing.T) {
	w := made(t, 6)
	w.spawn(seen(1), -1)
	w.next()
	w.spawn(seen(2), 0)
	w.despawn(w.spawn(full(3), 1))
	w.next()
	w.next()
	w.despawn(w.spawn(seen(4), -1))
	w.spawn(seen(5), -1)
	w.next()
	w.despawn(0)
	w.next()
	w.same()
	w.tells(0, 1, 2, 258, 514)
	w.tells()
}

// P13.1: names that are told rise, and each stands once, though a run touches them in another order.
func TestNamesRise(t *testing.T) {
	w := grown(t, 8, moved, 4, 3, 0, -1, 3, 2, 2)
	w.place(3, shift(5, 0, 0))
	w.tells(0, 1, 2, 3, 4, 5, 6)
	w.place(0, shift(5, 0, 0))
	w.place(6, shift(5, 0, 0))
	w.tells(0, 2, 5, 6)
	w.despawn(4)
	w.spawn(moved(0), 6)
	w.despawn(1)
	w.tells(0, 1, 2, 4, 5, 6, 260)
	w.spawn(moved(0), 5)
	w.place(2, shift(9, 0, 0))
	w.tells(2, 5, 6, 257, 260)
}

// P13.3: a sync with no change touches nobody, and leaves all records and slots; the tick is one more each time.
func TestNoChange(t *testing.T) {
	for _, parents := range [][]api.ID{{}, {-1}, {-1, 0, 0, 1, -1}, {4, 0, -1, 1, 2}} {
		w := grown(t, 8, seen, parents...)
		for range 5 {
			w.tells()
		}
		w.next()
		w.next()
		w.tells()
		// What the scene refuses changes nothing.
		w.adopt(2, 2)
		w.despawn(99)
		w.put(0, seen(1), api.Hide)
		w.free(77)
		w.tells()
	}
}

// P13.1: what changed at a tick is seen, whether the sync comes at that tick or later, and once.
func TestTicks(t *testing.T) {
	for ahead := range 3 {
		for behind := range 3 {
			w := grown(t, 4, seen, -1, 0, -1)
			for range ahead {
				w.next()
			}
			w.place(0, shift(9, 9, 9))
			w.despawn(2)
			for range behind {
				w.next()
			}
			w.tells(0, 1, 2)
			w.tells()
		}
	}
}

// P13.1: of a change at each of two ticks between two syncs both are seen; changes of one entity are one.
func TestSeveralTicks(t *testing.T) {
	w := grown(t, 8, seen, -1, -1, -1, -1)
	w.hide(3)
	w.next()
	w.place(1, shift(1, 1, 1))
	w.next()
	w.hide(1)
	w.show(1)
	w.next()
	w.despawn(0)
	w.tells(0, 1, 3)
}

// P13.1: who came and went between two syncs is told, once, and has no record, and no slot; nobody else is touched.
func TestCameAndWent(t *testing.T) {
	w := grown(t, 6, seen, -1, 0)
	id := w.spawn(seen(5), -1)
	w.despawn(id)
	w.tells(id)
	w.slot(id, -1)
	w.tells()
	// With a parent, with a child that stays, and with one that goes.
	top := w.spawn(seen(6), 1)
	kid := w.spawn(seen(7), top)
	lost := w.spawn(seen(8), top)
	w.next()
	w.despawn(lost)
	w.next()
	w.despawn(top)
	w.tells(rising(top, kid, lost)...)
	// In the place of one that went, and that was there.
	w.despawn(0)
	again := w.spawn(seen(9), -1)
	w.despawn(again)
	w.tells(0, 1, again)
	w.tells()
}

// P13.1: who goes has no record, and no slot; its children are touched, and all that hang on them; who comes at its index is another one.
func TestGoes(t *testing.T) {
	w := grown(t, 5, seen, -1, 0, 1, 0, -1)
	w.despawn(0)
	w.tells(0, 1, 2, 3)
	w.slot(0, -1)
	w.spawn(seen(8), 2)
	w.tells(256)
	w.slot(0, -1)
	w.slot(256, 0)
	w.despawn(256)
	w.despawn(2)
	w.tells(2, 256)
	w.slot(256, -1)
}

// P13.1: the least slot that nobody has is given, by names, rising.
func TestLeastSlot(t *testing.T) {
	w := grown(t, 10, seen, -1, -1, -1, -1, -1, -1)
	for id := range api.ID(6) {
		w.slot(id, int(id))
	}
	for _, id := range []api.ID{4, 1, 3} {
		w.hide(id)
	}
	w.fine()
	for _, id := range []api.ID{4, 1, 3} {
		w.slot(id, -1)
	}
	w.show(4)
	w.fine()
	w.slot(4, 1)
	w.show(3)
	w.show(1)
	w.spawn(seen(1), -1)
	w.fine()
	for n, want := range []int{0, 3, 2, 4, 1, 5, 6} {
		w.slot(api.ID(n), want)
	}
}

// P13.1: slots are given by names also where a run touches them in another order, and where names of later generations stand among them.
func TestSlotsByNames(t *testing.T) {
	w := grown(t, 6, seen, 5, 0, 1, 2, 3, -1)
	for id := range api.ID(6) {
		w.slot(id, int(id))
	}
	w.hide(5)
	w.tells(0, 1, 2, 3, 4, 5)
	w.show(5)
	w.tells(0, 1, 2, 3, 4, 5)
	for id := range api.ID(6) {
		w.slot(id, int(id))
	}
	w.despawn(1)
	w.despawn(3)
	w.hide(5)
	w.tells(0, 1, 2, 3, 4, 5)
	w.slot(2, 2)
	w.slot(4, 4)
	w.spawn(seen(2), -1)
	w.spawn(seen(3), 2)
	w.show(5)
	w.tells(0, 5, 257, 259)
	for id, want := range map[api.ID]int{0: 0, 1: -1, 2: 2, 3: -1, 4: 4, 5: 1, 257: 3, 259: 5} {
		w.slot(id, want)
	}
}

// P13.1: who goes loses a slot ahead of who comes: the one that comes at the same sync gets it.
func TestGoesWhileAnotherComes(t *testing.T) {
	w := grown(t, 6, seen, -1, -1, -1)
	w.spawn(seen(4), -1)
	w.despawn(1)
	w.tells(1, 3)
	w.slot(3, 1)
	w.despawn(0)
	w.spawn(seen(5), -1)
	w.tells(0, 256)
	w.slot(256, 0)
	// One that stays without a record makes room as well.
	w.cut(2, api.Paint)
	w.spawn(seen(6), -1)
	w.tells(2, 257)
	w.slot(2, -1)
	w.slot(257, 2)
	w.put(2, seen(2), api.Paint)
	w.despawn(3)
	w.tells(2, 3)
	w.slot(2, 1)
}

// P13.1: a record that goes and comes again loses its slot, which another one may have got.
func TestGoesAndComesAgain(t *testing.T) {
	for kind := range api.Kind(3) {
		w := grown(t, 6, seen, -1, -1, -1)
		w.cut(0, kind)
		w.tells(0)
		w.slot(0, -1)
		w.spawn(seen(9), -1)
		w.tells(3)
		w.slot(3, 0)
		w.put(0, seen(7), kind)
		w.tells(0)
		w.slot(0, 3)
		// Nobody took it: it is the least one again.
		w.cut(0, kind)
		w.tells(0)
		w.put(0, seen(6), kind)
		w.tells(0)
		w.slot(0, 3)
	}
}

// P13.3: a record keeps its slot as long as it has one, whatever is put and cut, and wherever it hangs; also if it goes and comes between two syncs.
func TestSlotStays(t *testing.T) {
	w := grown(t, 8, seen, -1, -1, 1, -1, 2)
	w.hide(0)
	w.fine()
	for _, change := range []func(){
		func() { w.place(2, shift(4, 5, 6)) },
		func() { w.put(2, seen(77), api.Shape, api.Paint, api.Layer) },
		func() { w.cut(2, api.Layer) },
		func() { w.hide(2); w.show(2) },
		func() { w.cut(2, 0, 1, 2); w.put(2, seen(8), 0, 1, 2) },
		func() { w.adopt(2, 3) },
		func() { w.place(3, shift(6, 7, 8)) },
		func() { w.adopt(2, 4); w.adopt(4, 3); w.adopt(2, 4) },
		func() { w.despawn(1); w.spawn(seen(4), -1) },
		func() { w.free(2) },
		func() { w.despawn(3) },
		func() { w.spawn(seen(5), 2) },
	} {
		change()
		w.fine()
		w.slot(2, 2)
		w.slot(4, 4)
	}
}

// P13.1: an entity of each set, shown and not, has a record, if it has place, shape and paint.
func TestEachSet(t *testing.T) {
	for s := range api.Set(sets) {
		for other := range api.Set(sets) {
			w := grown(t, 3, func(int) api.Parts { return pick(full(1), s) }, -1, 0)
			w.put(0, full(2), listed(other)...)
			w.tells(0, 1)
			w.cut(1, listed(other)...)
			w.tells(1)
			w.cut(0, listed(31-other)...)
			w.tells(0, 1)
		}
	}
}

// P13.1: each value that an entity gets is its record's.
func TestEachValue(t *testing.T) {
	w := grown(t, 2, seen, -1, 0)
	for n := range 300 {
		for kind := range api.Kind(4) {
			w.put(api.ID(n%2), full(n), kind)
			w.fine()
		}
	}
}

// P13.1: one that is too deep, or whose product runs over, is the sync's error; it is mended by the scene alone.
func TestFlowError(t *testing.T) {
	w := made(t, 32)
	for n := range api.ID(deepest) {
		w.spawn(moved(0), n-1)
	}
	w.fine()
	w.spawn(moved(0), deepest-1)
	w.fails(api.ErrDeep)
	w.fails(api.ErrDeep)
	w.free(5)
	w.fine()
	w.place(2, wide(200))
	w.fine()
	w.place(3, wide(200))
	w.fails(api.ErrOver)
	w.hide(0)
	w.fails(api.ErrOver)
	w.free(3)
	w.fine()
	w.adopt(5, 4)
	w.fine()
	w.spawn(moved(0), 4)
	w.fine()
}

// P13.1: of several that fail the error of the least name is told, which may stand under greater ones.
func TestLeastFlowError(t *testing.T) {
	// The names from 2 on are a chain of 16; 0 and 1 hang at its end, or on one that is wide.
	for _, x := range []struct {
		deep, over api.ID
		want       api.Errno
	}{{0, 1, api.ErrDeep}, {1, 0, api.ErrOver}} {
		w := made(t, 32)
		w.spawn(moved(0), -1)
		w.spawn(moved(0), -1)
		for n := range api.ID(deepest) {
			w.spawn(moved(0), []api.ID{n + 1, -1}[(deepest-n)/deepest])
		}
		top := w.spawn(big(wide(1)), -1)
		w.fine()
		w.adopt(x.deep, deepest+1)
		w.adopt(x.over, top)
		w.place(top, wide(20000))
		w.place(x.over, wide(20000))
		w.fails(x.want)
		w.despawn(min(x.deep, x.over))
		w.fails(api.ErrDeep + api.ErrOver - x.want)
		w.despawn(max(x.deep, x.over))
		w.fails(api.ErrOver) // of top's box
		w.place(top, wide(1))
		w.fine()
	}
}

// P13.1: a record's error is the sync's; of those that aren't drawn, or not shown, there is none.
func TestRecordError(t *testing.T) {
	w := grown(t, 8, moved, -1, 0, -1, 2)
	for id := range api.ID(4) {
		was := w.all[id].p
		w.put(id, big(wide(20000)), api.Place, api.Shape)
		w.fails(api.ErrOver)
		w.fails(api.ErrOver)
		w.hide(id)
		w.fine()
		w.show(id)
		w.cut(id, api.Paint)
		w.fine()
		w.put(id, was, 2)
		w.fails(api.ErrOver)
		w.put(id, was, 0)
		w.fine()
		w.put(id, was, 1)
		w.fine()
	}
	w.put(3, big(wide(20000)), api.Place, api.Shape)
	w.hide(2)
	w.fine()
	w.show(2)
	w.fails(api.ErrOver)
	w.despawn(3)
	w.fine()
}

// P13.1: the flow's error comes ahead of a record's, whose name may be less.
func TestFlowErrorAhead(t *testing.T) {
	w := made(t, 32)
	w.spawn(big(shift(0, 0, 0)), -1)
	for n := range api.ID(deepest) {
		w.spawn(moved(0), []api.ID{n, -1}[(deepest-n)/deepest])
	}
	w.fine()
	w.place(0, wide(20000))
	w.spawn(moved(0), deepest)
	w.fails(api.ErrDeep)
	w.despawn(deepest)
	w.fails(api.ErrOver)
	w.place(0, shift(0, 0, 0))
	w.fine()
}

// P13.1: the tick is one more behind each sync, also behind one with an error, of the flow, and of a record.
func TestTickBehindError(t *testing.T) {
	w := made(t, 20)
	w.grow(moved, -1, 0)
	ticks := func(want int) {
		t.Helper()
		if n := w.s.Tick(); n != want {
			t.Fatalf("Tick: %d, wanted %d", n, want)
		}
	}
	w.fine()
	ticks(2)
	w.put(0, big(wide(20000)), api.Place, api.Shape)
	w.fails(api.ErrOver)
	ticks(3)
	w.place(1, wide(20000))
	w.fails(api.ErrOver)
	ticks(4)
	w.fails(api.ErrOver)
	ticks(5)
	w.place(0, shift(0, 0, 0))
	w.place(1, shift(0, 0, 0))
	w.fine()
	ticks(6)
	w.forget()
	ticks(6)
	w.tells(0, 1)
	ticks(7)
}

// P13.1: an error forgets all: who is there is touched by the next sync, who ever went is told, and slots are given by names from 0 on.
func TestErrorForgets(t *testing.T) {
	for _, deep := range []bool{false, true} {
		w := grown(t, 40, seen, -1, -1, -1, -1)
		w.hide(0)
		w.fine()
		w.spawn(seen(5), -1)
		w.despawn(2)
		w.fine()
		w.show(0)
		w.fine()
		// The slots don't rise with the names now.
		for id, want := range map[api.ID]int{0: 2, 1: 1, 2: -1, 3: 3, 4: 0} {
			w.slot(id, want)
		}
		for _, e := range []api.Errno{api.ErrOver, api.ErrOver, api.ErrDeep, api.ErrOver} {
			if deep == (e == api.ErrDeep) {
				w.fault(e)
			}
		}
		w.next()
		w.fine()
		for id, want := range map[api.ID]int{0: 0, 1: 1, 2: -1, 3: 2, 4: 3} {
			w.slot(id, want)
		}
		w.tells()
	}
}

// fault lets a sync have this error, and mends what it was of: who came for it went again.
func (w *world) fault(e api.Errno) {
	w.t.Helper()
	up := api.ID(-1)
	var l []api.ID
	if e == api.ErrDeep {
		for range deepest {
			up = w.spawn(moved(0), up)
			l = append(l, up)
		}
	}
	w.fine()
	if e == api.ErrDeep {
		l = append(l, w.spawn(moved(0), up))
	} else {
		l = append(l, w.spawn(big(wide(20000)), up))
	}
	w.fails(e)
	for _, id := range w.asked() {
		w.slot(id, -1)
	}
	for _, id := range l {
		w.despawn(id)
	}
	had := len(w.gone) + len(w.all)
	if names, _ := w.sync(); len(names) != had {
		w.t.Fatalf("Sync: %v, wanted %d", names, had)
	}
	w.tells()
}

// P13.1: what is forgotten is as new, but for the steps: the next sync touches all, tells all that ever went, and gives slots from 0 on.
func TestForget(t *testing.T) {
	w := made(t, 8)
	w.forget()
	w.tells()
	w.grow(seen, -1, 0, 0, -1)
	w.despawn(0)
	w.fine()
	w.spawn(seen(6), -1)
	w.fine()
	w.slot(256, 3)
	w.hide(1)
	w.fine()
	w.show(1)
	w.spawn(seen(7), -1)
	w.fine()
	w.forget()
	w.forget()
	for _, id := range w.asked() {
		w.slot(id, -1)
	}
	w.tells(0, 1, 2, 3, 4, 256)
	for n, id := range []api.ID{1, 2, 3, 4, 256} {
		w.slot(id, n)
	}
	w.tells()
	// What changed is not lost with what is forgotten.
	w.hide(3)
	w.despawn(4)
	w.forget()
	w.hide(2)
	w.tells(0, 1, 2, 3, 4, 256)
	w.slot(256, 1)
}

// P13.1: steps count on, in all syncs: with an error, and behind Forget, too.
func TestSteps(t *testing.T) {
	w := made(t, 8)
	steps := func(want int) {
		t.Helper()
		if n := w.x.Steps(); n != want {
			t.Fatalf("Steps: %d, wanted %d", n, want)
		}
	}
	w.grow(moved, -1, 0, 1, -1)
	steps(0)
	w.fine()
	steps(4)
	w.fine()
	steps(4)
	w.place(1, shift(2, 0, 0))
	w.despawn(3)
	steps(4)
	w.fine()
	steps(7)
	w.put(1, big(wide(20000)), api.Place, api.Shape)
	w.fails(api.ErrOver)
	steps(9)
	w.fails(api.ErrOver)
	steps(13)
	w.place(2, wide(20000))
	w.fails(api.ErrOver)
	steps(17)
	w.put(1, moved(0), api.Place, api.Shape)
	w.fine()
	steps(21)
	w.forget()
	steps(21)
	w.fine()
	steps(25)
	w.fine()
	steps(25)
}

// P13.1: a nil scene is ErrArg; the extract has then what it had.
func TestNilScene(t *testing.T) {
	w := made(t, 6)
	for range 2 {
		if l, e := w.x.Sync(nil); len(l) != 0 || e != api.ErrArg {
			t.Fatalf("Sync: %v %d", l, e)
		}
		w.same()
		w.grow(seen, -1, 0)
	}
	w.fine()
	w.despawn(1)
	w.place(2, shift(1, 0, 0))
	w.fine()
	w.hide(0)
	if l, e := w.x.Sync(nil); len(l) != 0 || e != api.ErrArg {
		t.Fatalf("Sync: %v %d", l, e)
	}
	w.same()
	w.tells(0)
	w.tells()
}

// P13.1: on a nil extract there are ErrArg, nothing, -1 and 0; the scene stays as it was, its tick too.
func TestNil(t *testing.T) {
	var x *extract.Extract
	w := grown(t, 4, seen, -1, 0)
	for _, s := range []*scene.Scene{nil, w.s} {
		for range 2 {
			if l, e := x.Sync(s); len(l) != 0 || e != api.ErrArg {
				t.Errorf("Sync: %v %d", l, e)
			}
			x.Forget()
			if r := x.Records(); len(r) != 0 || x.Steps() != 0 {
				t.Errorf("Records: %v, Steps: %d", r, x.Steps())
			}
			for _, id := range w.asked() {
				if n := x.Slot(id); n != -1 {
					t.Errorf("Slot(%d): %d", id, n)
				}
			}
		}
	}
	w.same()
	w.tells()
}

// P13.1: names below 0, far ones, those that live without a record, and those that went, have no slot; nor has anybody ahead of the first sync.
func TestStrangers(t *testing.T) {
	w := made(t, 6)
	w.grow(seen, -1, -1, -1, -1)
	for id := range api.ID(6) {
		w.slot(id, -1)
	}
	w.hide(1)
	w.despawn(3)
	w.fine()
	had := []api.ID{0, 2}
	for _, id := range append(w.asked(), 1, 3, 4, 256, 259) {
		if !slices.Contains(had, id) {
			w.slot(id, -1)
		}
	}
	w.slot(0, 0)
	w.slot(2, 1)
}

// P13.1: what a scene is told behind a sync doesn't show till the next one.
func TestOnlyBySync(t *testing.T) {
	w := grown(t, 6, seen, -1, 0, -1)
	for _, change := range []func(){
		func() { w.hide(0) },
		func() { w.place(2, wide(3)) },
		func() { w.despawn(1) },
		func() { w.spawn(seen(1), -1) },
		func() { w.next() },
	} {
		change()
		w.same()
	}
	w.tells(0, 1, 2, 257)
}

// P13.1 (P2): what is answered is new memory: who writes into it, or adds to it, changes nothing, and it stays as it was.
func TestNewMemory(t *testing.T) {
	w := grown(t, 8, seen, -1, 0, -1, -1)
	one, other := w.x.Records(), w.x.Records()
	for n := range one {
		one[n] = record.Record{ID: 99}
	}
	_ = append(one, record.Record{ID: 98})
	if !slices.Equal(other, w.list()) {
		t.Errorf("Records: %v", other)
	}
	w.same()
	w.place(0, shift(8, 8, 8))
	w.hide(3)
	w.follow()
	names, e := w.x.Sync(w.s)
	if e != api.OK || !slices.Equal(names, []api.ID{0, 1, 3}) {
		t.Fatalf("Sync: %v %d", names, e)
	}
	had := w.x.Records()
	for n := range names {
		names[n] = 77
	}
	_ = append(names, 76)
	w.same()
	w.tells()
	was := slices.Clone(had)
	w.spawn(seen(5), -1)
	w.place(1, shift(0, 0, 9))
	w.despawn(2)
	w.tells(1, 2, 4)
	if !slices.Equal(had, was) || !slices.Equal(names, []api.ID{77, 77, 77}) {
		t.Errorf("Records: %v, Sync: %v", had, names)
	}
}

// P13.1 (P2): two extracts of one scene, in turn, have the same records, and slots of their own; both move its tick.
func TestTwoExtracts(t *testing.T) {
	w := grown(t, 8, seen, -1, -1, -1)
	late := extract.New()
	w.despawn(0)
	w.fine()
	w.spawn(seen(5), -1)
	w.fine()
	for range 3 {
		l, e := late.Sync(w.s)
		if w.tick++; e != api.OK || !slices.Equal(late.Records(), w.x.Records()) {
			t.Fatalf("Sync: %v %d, Records: %v, wanted %v", l, e, late.Records(), w.x.Records())
		}
		w.tells()
	}
	if n := late.Steps(); n != 4 || late.Slot(1) != 0 || late.Slot(256) != 2 {
		t.Errorf("Steps: %d, Slot: %d %d", n, late.Slot(1), late.Slot(256))
	}
	w.slot(1, 1)
	w.slot(256, 0)
	w.hide(2)
	w.tells(2)
	if l, e := late.Sync(w.s); e != api.OK || !slices.Equal(l, []api.ID{2}) {
		t.Errorf("Sync: %v %d", l, e)
	}
}

// P13.1 (P2): what an extract of one scene has, one of another scene hasn't; forgotten between, one extract may go from scene to scene.
func TestTwoScenes(t *testing.T) {
	v, w := grown(t, 4, seen, -1, 0, 1), grown(t, 4, moved, 1, -1)
	v.hide(0)
	w.despawn(1)
	v.fine()
	w.same()
	w.fine()
	v.same()
	for range 3 {
		v.x, w.x = w.x, v.x
		v.steps, w.steps = w.steps, v.steps
		v.forget()
		w.forget()
		v.place(1, shift(1, 0, 0))
		v.fine()
		w.spawn(moved(0), -1)
		w.fine()
		v.tells()
		w.tells()
	}
}

// P13.2: the error and the records are those of a new extract of the same scene itself, behind each change, with and without an error.
func TestAnewOfSameScene(t *testing.T) {
	w := grown(t, 24, seen, -1, 0, 1, -1, 3)
	for n, change := range []func(){
		func() { w.hide(1) },
		func() { w.adopt(1, 4) },
		func() { w.put(2, big(wide(20000)), 0, 1) },
		func() { w.show(1) },
		func() { w.place(3, wide(20000)) },
		func() { w.despawn(2) },
		func() { w.spawn(seen(9), 3) },
		func() { w.place(3, shift(0, 0, 0)) },
		func() {},
	} {
		change()
		_, e := w.sync()
		x := extract.New()
		if _, f := x.Sync(w.s); f != e || !slices.Equal(x.Records(), w.x.Records()) {
			t.Fatalf("change %d: %d, anew %d; %v, anew %v", n, e, f, w.x.Records(), x.Records())
		}
		w.tick++
		w.same()
	}
}

// P13.3: a sync touches who changed, and who hangs on that, and nobody else, in a bushy forest, too.
func TestOnlyWhatChanged(t *testing.T) {
	next := draw()
	w := made(t, 140)
	for n := range api.ID(120) {
		up := (n - 1) / 3
		if n%40 == 0 {
			up = -1
		}
		w.spawn(moved(0), up)
	}
	w.fine()
	under := func(id api.ID) (n int) {
		for _, other := range w.ids() {
			if slices.Contains(w.line(other), id) {
				n++
			}
		}
		return n
	}
	for n := range 60 {
		l := w.ids()
		id := l[next(len(l))]
		want := under(id)
		if n%4 == 0 {
			w.despawn(id)
		} else {
			w.place(id, shift(api.F(n), 0, 0))
		}
		if names, e := w.sync(); e != api.OK || len(names) != want {
			t.Fatalf("%d: %v %d, wanted %d", id, names, e, want)
		}
		w.tells()
	}
}

// P13.1: a scene of all indexes, that is filled, half emptied, and filled again: all slots below 256, each once.
func TestFullScene(t *testing.T) {
	w := made(t, maxRoom)
	for n := range maxRoom {
		w.spawn(seen(n), api.ID(n%16-1))
	}
	w.fine()
	for n := range api.ID(maxRoom) {
		w.slot(n, int(n))
	}
	for n := range api.ID(maxRoom) {
		if n%3 == 1 {
			w.despawn(n)
		}
	}
	w.fine()
	for n := range maxRoom {
		w.spawn(seen(n), -1)
	}
	w.fine()
	var slots []int
	for _, id := range w.ids() {
		slots = append(slots, w.x.Slot(id))
	}
	slices.Sort(slots)
	for n := range maxRoom {
		if len(slots) != maxRoom || slots[n] != n {
			t.Fatalf("slots: %v", slots)
		}
	}
	for _, id := range w.ids() {
		w.despawn(id)
	}
	w.fine()
	if r := w.x.Records(); len(r) != 0 {
		t.Errorf("Records: %v", r)
	}
}

// P13.1: very many come and go at one index, each seen by a sync, or several by one; when it is forgotten, all are told again.
func TestManyGenerations(t *testing.T) {
	w := made(t, 2)
	w.spawn(seen(1), -1)
	for n := range 600 {
		id := w.spawn(seen(n), 0)
		switch {
		case n%7 == 0:
			w.follow()
			if l, e := w.x.Sync(w.s); e != api.OK || l[len(l)-1] != id {
				t.Fatalf("Sync: %v %d", l, e)
			}
			w.slot(id, 1)
		case n%5 == 0:
			w.follow()
			w.x.Sync(w.s)
		}
		w.despawn(id)
	}
	w.fine()
	w.forget()
	if l, e := w.sync(); e != api.OK || len(l) != 601 {
		t.Errorf("Sync: %d %d", len(l), e)
	}
	w.tells()
}

// forests calls do with each forest of n entities: of each one its parent, or -1.
func forests(n int, do func(parents []api.ID)) {
	total := 1
	for range n {
		total *= n + 1
	}
	for code := range total {
		var parents []api.ID
		for range n {
			parents = append(parents, api.ID(code%(n+1)-1))
			code /= n + 1
		}
		if !ringed(parents) {
			do(parents)
		}
	}
}

// ringed tells whether one comes to no end when one goes from one to its parent.
func ringed(parents []api.ID) bool {
	for id := range parents {
		up := api.ID(id)
		for range parents {
			if up >= 0 {
				up = parents[up]
			}
		}
		if up >= 0 {
			return true
		}
	}
	return false
}

// changes are what may be done to one of n entities, or to two of them.
func changes(n api.ID) (l []func(w *world)) {
	for id := range n {
		l = append(l,
			func(w *world) { w.hide(id) },
			func(w *world) { w.show(id) },
			func(w *world) { w.cut(id, api.Shape) },
			func(w *world) { w.put(id, seen(7), api.Place, api.Shape, api.Paint) },
			func(w *world) { w.despawn(id) },
			func(w *world) { w.free(id) },
			func(w *world) { w.spawn(seen(8), id) },
			func(w *world) { w.spawn(seen(9), -1) },
		)
		for parent := range n {
			l = append(l, func(w *world) { w.adopt(id, parent) })
		}
	}
	return l
}

// P13.1, P13.2, P13.3: in each forest of three entities, each drawn, hidden or without a shape, each change.
func TestEachChange(t *testing.T) {
	forests(3, func(parents []api.ID) {
		for code := range 27 {
			kinds := []api.Set{[]api.Set{15, 31, 5}[code%3], []api.Set{15, 31, 5}[code/3%3], []api.Set{15, 31, 5}[code/9]}
			for _, change := range changes(3) {
				w := grown(t, 4, func(n int) api.Parts { return pick(full(n), kinds[n]) }, parents...)
				change(w)
				w.fine()
				w.tells()
			}
		}
	})
}

// P13.1, P13.2, P13.3: each two changes, at one sync, at two, and with what is forgotten between.
func TestEachTwoChanges(t *testing.T) {
	for _, parents := range [][]api.ID{{-1, 0, 1}, {2, 0, -1}, {-1, -1, 0}} {
		for _, first := range changes(3) {
			for _, second := range changes(3) {
				for _, between := range []func(w *world){
					func(*world) {},
					func(w *world) { w.next() },
					func(w *world) { w.fine() },
					func(w *world) { w.forget() },
				} {
					w := grown(t, 5, seen, parents...)
					first(w)
					between(w)
					second(w)
					w.fine()
					w.tells()
				}
			}
		}
	}
}

// some is a name that lives, if one does, and now and then one that doesn't.
func (w *world) some(next func(int) int) api.ID {
	l := w.ids()
	if len(l) == 0 || next(10) == 0 {
		l = w.asked()
	}
	return l[next(len(l))]
}

// step does one thing to the scene; of so many hundred places some let products or boxes run over.
func (w *world) step(next func(int) int, n, rough int) {
	w.t.Helper()
	id, other, kinds := w.some(next), w.some(next), api.Set(next(sets))
	p := full(n)
	if next(100) < rough {
		p.Place, p.Box = wide(20000), big(api.Mat{}).Box
	}
	switch way := next(16); {
	case way < 2:
		w.spawn(pick(p, kinds|drawable), -1)
	case way < 4:
		w.spawn(pick(p, 15), other)
	case way == 4:
		w.spawn(pick(p, kinds), other)
	case way < 7:
		w.despawn(id)
	case way < 9:
		w.adopt(id, other)
	case way == 9:
		w.free(id)
	case way == 10:
		w.hide(id)
	case way == 11:
		w.show(id)
	case way == 12:
		w.cut(id, listed(kinds)...)
	case way < 15:
		w.put(id, p, listed(kinds&15)...)
	default:
		w.next()
	}
}

// row does many things to a scene, with a sync behind each, or behind several of them; it tells how many had an error, and how many hadn't.
func (w *world) row(next func(int) int, steps, rough, apart int) (failed, fine int) {
	w.t.Helper()
	for n := range steps {
		w.step(next, n, rough)
		if next(60) == 0 {
			w.forget()
		}
		if next(apart) > 0 {
			continue
		}
		if _, e := w.sync(); e != api.OK {
			failed++
			continue
		}
		fine++
		if next(4) == 0 {
			w.tells()
		}
	}
	return failed, fine
}

// P13.1, P13.2, P13.3: long rows of steps on scenes of few entities and of many, with a sync behind each and behind several, with errors and without.
func TestRows(t *testing.T) {
	next := draw()
	for _, room := range []int{1, 2, 4, 9, 30} {
		for _, rough := range []int{0, 3, 15} {
			for _, apart := range []int{1, 3, 12} {
				failed, fine := made(t, room).row(next, 500, rough, apart)
				if rough == 0 && room <= deepest && failed > 0 || rough == 15 && room > 2 && failed == 0 || fine == 0 {
					t.Errorf("room %d, rough %d, apart %d: %d failed, %d didn't", room, rough, apart, failed, fine)
				}
			}
		}
	}
}

// P13.1, P13.2: long rows that hang chains of about 16 one under the other, so that some come too deep.
func TestDeepRows(t *testing.T) {
	next := draw()
	w := made(t, 40)
	deep, fine := 0, 0
	for range 40 {
		w.spawn(moved(0), -1)
	}
	for range 400 {
		id := api.ID(next(40))
		switch next(12) {
		case 0:
			w.hide(id)
		case 1, 2:
			w.free(id)
		default:
			w.adopt(id, (id+39)%40)
		}
		if next(2) == 0 {
			continue
		}
		if _, e := w.sync(); e == api.ErrDeep {
			deep++
		} else {
			fine++
		}
	}
	if deep < 10 || fine < 10 {
		t.Errorf("%d deep, %d fine", deep, fine)
	}
}

// P1: an extract that is synced with one scene, and then with another one, without being forgotten between, of which nothing is said, still ends, and once it is forgotten is as any.
func TestOtherScene(t *testing.T) {
	next := draw()
	x := extract.New()
	scenes := []*world{made(t, 5), made(t, 9), made(t, maxRoom)}
	for n := range 1500 {
		w := scenes[next(3)]
		w.step(next, n, 2)
		w.step(next, n+1, 0)
		x.Sync(w.s)
		w.tick++
		for _, r := range x.Records() {
			x.Slot(r.ID)
		}
		if n%50 > 0 {
			continue
		}
		x.Forget()
		_, e := x.Sync(w.s)
		w.tick++
		if _, f := w.sync(); f != e || !slices.Equal(x.Records(), w.x.Records()) {
			t.Fatalf("Sync: %d, wanted %d", e, f)
		}
	}
}

// P1: a ring between what two scenes have is no endless one.
func TestRingOfTwoScenes(t *testing.T) {
	v, w := grown(t, 2, moved, -1, 0), grown(t, 2, moved, 1, -1)
	x := extract.New()
	if _, e := x.Sync(v.s); e != api.OK {
		t.Fatalf("Sync: %d", e)
	}
	for range 5 {
		w.s.Next()
	}
	w.s.Adopt(0, 1)
	x.Sync(w.s)
	x.Forget()
	if _, e := x.Sync(w.s); e != api.OK || len(x.Records()) != 2 {
		t.Errorf("Sync: %d, Records: %v", e, x.Records())
	}
}

// P1: a scene whose store is changed past it, of which nothing is said, and one that no call gave, let a sync end, too.
func TestStrangeScenes(t *testing.T) {
	s, _ := scene.New(6)
	x := extract.New()
	for n := range 5 {
		s.Spawn(seen(n), api.ID(n-1))
	}
	for _, change := range []func(){
		func() {},
		func() { s.Store.Despawn(1) },
		func() { s.Take() },
		func() { s.Drop(2) },
		func() { s.Take() },
		func() { s.Touch(0, 1, 2, 3, 256, 257, 258) },
	} {
		change()
		for range 2 {
			x.Sync(s)
			for _, r := range x.Records() {
				x.Slot(r.ID)
			}
		}
	}
	x.Sync(&scene.Scene{})
	x.Forget()
	if l, e := x.Sync(&scene.Scene{}); e != api.OK || len(l) != 0 {
		t.Errorf("Sync: %v %d", l, e)
	}
}
