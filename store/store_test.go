package store_test

import (
	"math"
	"slices"
	"testing"

	"gesso/api"
	"gesso/store"
)

// The limits as the document writes them, so that a test leans on no constant of the program.
const (
	least       = -2147483648
	greatest    = 2147483647
	sets        = 32
	maxRoom     = 256
	generations = 65536
)

// wrongSets are numbers that are no sets; those of 32 bits and more would be sets if they were cut short.
func wrongSets() []api.Set {
	return []api.Set{math.MinInt, math.MinInt + 31, -1 << 32, -1<<32 + 31, -32, -31, -2, -1, 32, 33, 63, 64, 1 << 31, 1 << 32, 1<<32 + 31, math.MaxInt}
}

// wrongKinds are numbers that are no kinds.
func wrongKinds() []api.Kind {
	return []api.Kind{math.MinInt, -1 << 32, -1<<32 + 1, -64, -5, -2, -1, 5, 6, 7, 31, 32, 63, 64, 65, 256, 1 << 32, 1<<32 + 4, math.MaxInt}
}

// farNames are numbers that are no names, and names that a pool gives late; some would be 0 or 1 if they were cut short.
func farNames() []api.ID {
	return []api.ID{-1, -2, -255, -256, -257, math.MinInt, math.MinInt + 1, math.MaxInt, 1 << 24, 1<<24 + 1, 1<<24 - 1, 1 << 32, 1<<32 + 1, -1 << 32, -1<<32 + 1, 65535 * 256, least, greatest}
}

// has tells whether a set has a kind, by its bit.
func has(s, kind int) bool { return s>>kind&1 == 1 }

// lay writes q's values of the kinds of a set over p's, written out.
func lay(p, q api.Parts, s int) api.Parts {
	if has(s, 0) {
		p.Place = q.Place
	}
	if has(s, 1) {
		p.Mesh, p.Box = q.Mesh, q.Box
	}
	if has(s, 2) {
		p.Pipe, p.Material, p.Clear = q.Pipe, q.Material, q.Clear
	}
	if has(s, 3) {
		p.Layer = q.Layer
	}
	p.Has |= api.Set(s)
	return p
}

// pick is, of each kind of a set, p's values.
func pick(p api.Parts, s int) api.Parts { return lay(api.Parts{}, p, s) }

// full has all kinds; each of its values is another one, and those of another n are others.
func full(n int) api.Parts {
	p := api.Parts{Has: 31, Mesh: (n + 3) % 256, Pipe: (n + 4) % 64, Material: (n + 5) % 256, Clear: n%2 == 1, Layer: (n + 6) % 256}
	for place := range p.Place {
		p.Place[place] = api.F(1000*n + 10 + place)
	}
	for place := range 3 {
		p.Box.Min[place], p.Box.Max[place] = api.F(-1000*n-30-place), api.F(1000*n+40+place)
	}
	return p
}

// low has all kinds, with the least values.
func low() api.Parts {
	p := api.Parts{Has: 31, Box: api.Box{Min: api.Vec{least, least, least}, Max: api.Vec{least, least, least}}}
	for place := range p.Place {
		p.Place[place] = least
	}
	return p
}

// high has all kinds, with the greatest values.
func high() api.Parts {
	p := api.Parts{Has: 31, Mesh: 255, Pipe: 63, Material: 255, Clear: true, Layer: 255}
	p.Box = api.Box{Min: api.Vec{greatest, greatest, greatest}, Max: api.Vec{greatest, greatest, greatest}}
	for place := range p.Place {
		p.Place[place] = greatest
	}
	return p
}

// wrongParts are parts that may not be.
func wrongParts() (l []api.Parts) {
	for _, change := range []func(p *api.Parts){
		func(p *api.Parts) { p.Place[0] = greatest + 1 },
		func(p *api.Parts) { p.Place[11] = least - 1 },
		func(p *api.Parts) { p.Mesh = 256 },
		func(p *api.Parts) { p.Mesh = -1 },
		func(p *api.Parts) { p.Box.Min[1] = p.Box.Max[1] + 1 },
		func(p *api.Parts) { p.Pipe = 64 },
		func(p *api.Parts) { p.Material = math.MinInt },
		func(p *api.Parts) { p.Layer = 256 },
		func(p *api.Parts) { p.Layer = -1 },
		func(p *api.Parts) { p.Has = 0 },
		func(p *api.Parts) { p.Has = 30 },
		func(p *api.Parts) { p.Has = 29 },
		func(p *api.Parts) { p.Has = 27 },
		func(p *api.Parts) { p.Has = 23 },
	} {
		p := full(1)
		change(&p)
		l = append(l, p)
	}
	for _, s := range wrongSets() {
		p := full(1)
		p.Has = s
		l = append(l, p, api.Parts{Has: s})
	}
	return l
}

// listed are a set's kinds, rising.
func listed(s int) (l []api.Kind) {
	for kind := range 5 {
		if has(s, kind) {
			l = append(l, api.Kind(kind))
		}
	}
	return l
}

// being is an entity that is kept by hand.
type being struct {
	id   api.ID
	p    api.Parts
	tick int
}

// world is a store, and the same by the document's words: who lives, by indexes, the rows of each set, and who went.
type world struct {
	t     *testing.T
	s     *store.Store
	room  int
	gens  [maxRoom]int
	lives [maxRoom]bool
	all   [maxRoom]being
	rows  [sets][]api.ID
	tick  int
	gone  []being
}

// made is a store without entities, and the same by hand.
func made(t *testing.T, room int) *world {
	t.Helper()
	s, e := store.New(room)
	if s == nil || e != api.OK {
		t.Fatalf("New(%d): %v %d", room, s, e)
	}
	return &world{t: t, s: s, room: room, tick: 1}
}

// filled is a store with an entity of each of these sets, whose parts hang on their places.
func filled(t *testing.T, room int, sets ...int) *world {
	t.Helper()
	w := made(t, room)
	for n, s := range sets {
		w.spawn(pick(full(n), s))
	}
	return w
}

// index is that of a name that lives; -1, if it doesn't.
func (w *world) index(id api.ID) int {
	for index := range w.room {
		if w.lives[index] && w.all[index].id == id {
			return index
		}
	}
	return -1
}

// leave cuts a name from its rows: the last one takes its place.
func (w *world) leave(id api.ID, s api.Set) {
	rows := w.rows[s]
	last := len(rows) - 1
	rows[slices.Index(rows, id)] = rows[last]
	w.rows[s] = rows[:last]
}

// spawn spawns in both; where there is no room, ErrFull is wanted.
func (w *world) spawn(p api.Parts) api.ID {
	w.t.Helper()
	for index := range w.room {
		if w.lives[index] || w.gens[index] == generations {
			continue
		}
		want := api.ID(256*w.gens[index] + index)
		if id, e := w.s.Spawn(p); id != want || e != api.OK {
			w.t.Fatalf("Spawn: %d %d, wanted %d", id, e, want)
		}
		w.lives[index], w.all[index] = true, being{want, p, w.tick}
		w.rows[p.Has] = append(w.rows[p.Has], want)
		return want
	}
	if id, e := w.s.Spawn(p); id != 0 || e != api.ErrFull {
		w.t.Fatalf("Spawn: %d %d, wanted ErrFull", id, e)
	}
	return -1
}

// despawn lets one go in both.
func (w *world) despawn(id api.ID) {
	w.t.Helper()
	index, want := w.index(id), api.ErrNone
	if index >= 0 {
		want = api.OK
		w.leave(id, w.all[index].p.Has)
		w.lives[index] = false
		w.gens[index]++
		w.gone = append(w.gone, being{id: id, tick: w.tick})
	}
	if e := w.s.Despawn(id); e != want {
		w.t.Fatalf("Despawn(%d): %d, wanted %d", id, e, want)
	}
}

// give gives an entity parts by hand; it changed now.
func (w *world) give(index int, p api.Parts) {
	old := w.all[index]
	if old.p.Has != p.Has {
		w.leave(old.id, old.p.Has)
		w.rows[p.Has] = append(w.rows[p.Has], old.id)
	}
	w.all[index].p, w.all[index].tick = p, w.tick
}

// put puts kinds in both, which p has.
func (w *world) put(id api.ID, p api.Parts, l ...api.Kind) {
	w.t.Helper()
	index, want := w.index(id), api.ErrNone
	if index >= 0 {
		q := w.all[index].p
		for _, kind := range l {
			q = lay(q, p, 1<<kind)
		}
		w.give(index, q)
		want = api.OK
	}
	if e := w.s.Put(id, p, l...); e != want {
		w.t.Fatalf("Put(%d, %v): %d, wanted %d", id, l, e, want)
	}
}

// cut cuts kinds in both.
func (w *world) cut(id api.ID, l ...api.Kind) {
	w.t.Helper()
	index, want := w.index(id), api.ErrNone
	if index >= 0 {
		q := w.all[index].p
		for _, kind := range l {
			q = pick(q, int(q.Has)&^(1<<kind))
		}
		w.give(index, q)
		want = api.OK
	}
	if e := w.s.Cut(id, l...); e != want {
		w.t.Fatalf("Cut(%d, %v): %d, wanted %d", id, l, e, want)
	}
}

// touch touches names in both.
func (w *world) touch(l ...api.ID) {
	w.t.Helper()
	want := 0
	for _, id := range l {
		if index := w.index(id); index >= 0 {
			w.all[index].tick = w.tick
			want++
		}
	}
	if n := w.s.Touch(l...); n != want {
		w.t.Fatalf("Touch(%v): %d, wanted %d", l, n, want)
	}
}

// next is the next tick of both.
func (w *world) next() {
	w.t.Helper()
	w.tick++
	if n := w.s.Next(); n != w.tick {
		w.t.Fatalf("Next: %d, wanted %d", n, w.tick)
	}
}

// ids are all that live, by indexes.
func (w *world) ids() (l []api.ID) {
	for index := range w.room {
		if w.lives[index] {
			l = append(l, w.all[index].id)
		}
	}
	return l
}

// changed are those that changed above a tick, rising.
func (w *world) changed(since int) (l []api.ID) {
	for index := range w.room {
		if w.lives[index] && w.all[index].tick > since {
			l = append(l, w.all[index].id)
		}
	}
	slices.Sort(l)
	return l
}

// went are those that went above a tick, rising.
func (w *world) went(since int) (l []api.ID) {
	for _, x := range w.gone {
		if x.tick > since {
			l = append(l, x.id)
		}
	}
	slices.Sort(l)
	return l
}

// query are those that have all of the one's bits, and none of the other's, each bit asked alone.
func (w *world) query(all, none api.Set) (l []api.ID) {
	for s, rows := range w.rows {
		fits := true
		for bit := range 64 {
			mask := api.Set(1) << bit
			if all&mask != 0 && api.Set(s)&mask == 0 || none&mask != 0 && api.Set(s)&mask != 0 {
				fits = false
			}
		}
		if fits {
			l = append(l, rows...)
		}
	}
	return l
}

// asked are numbers to query with: all sets of one kind or none, some of several, and those that are no sets.
func asked() []api.Set {
	return append(wrongSets(), 0, 1, 2, 4, 8, 16, 3, 7, 24, 25, 30, 31)
}

// since are ticks to ask with: all that were, those around them, and those far beyond.
func (w *world) since() []int {
	l := []int{math.MinInt, -1 << 32, -1, math.MaxInt, 1 << 32, 1<<32 + 1, -1<<32 + w.tick}
	for tick := range min(w.tick, 20) + 3 {
		l = append(l, tick, w.tick-tick)
	}
	return l
}

// told holds ticks, and who changed and went, against what is kept by hand.
func (w *world) told() {
	w.t.Helper()
	if n := w.s.Tick(); n != w.tick {
		w.t.Fatalf("Tick: %d, wanted %d", n, w.tick)
	}
	for _, since := range w.since() {
		if l := w.s.Changed(since); !slices.Equal(l, w.changed(since)) {
			w.t.Fatalf("Changed(%d): %v, wanted %v", since, l, w.changed(since))
		}
		if l := w.s.Gone(since); !slices.Equal(l, w.went(since)) {
			w.t.Fatalf("Gone(%d): %v, wanted %v", since, l, w.went(since))
		}
	}
}

// there holds who lives, and with what parts, against what is kept by hand; Live and Len are the pool's, promoted.
func (w *world) there() {
	w.t.Helper()
	if l := w.s.All(); !slices.Equal(l, w.ids()) || w.s.Len() != len(l) {
		w.t.Fatalf("All: %v, Len: %d, wanted %v", l, w.s.Len(), w.ids())
	}
	for index := range w.room {
		if x := w.all[index]; w.lives[index] {
			if p, ok := w.s.Get(x.id); p != x.p || !ok || !w.s.Live(x.id) {
				w.t.Fatalf("Get(%d): %v %t, wanted %v", x.id, p, ok, x.p)
			}
		}
	}
	for _, id := range w.strangers() {
		if p, ok := w.s.Get(id); p != (api.Parts{}) || ok || w.s.Live(id) {
			w.t.Fatalf("Get(%d): %v %t", id, p, ok)
		}
	}
}

// strangers are names that don't live: those that went last, those that come next, and those far beyond.
func (w *world) strangers() (l []api.ID) {
	for _, x := range w.gone[max(0, len(w.gone)-9):] {
		l = append(l, x.id)
	}
	for index := range 3 {
		l = append(l, api.ID(256*(w.gens[index]+1)+index))
		if !w.lives[index] {
			l = append(l, api.ID(256*w.gens[index]+index))
		}
	}
	return append(l, farNames()...)
}

// same asks a store for all that it tells, and holds it against what is kept by hand.
func (w *world) same() {
	w.t.Helper()
	w.there()
	w.told()
	for _, all := range asked() {
		for _, none := range asked() {
			if l := w.s.Query(all, none); !slices.Equal(l, w.query(all, none)) {
				w.t.Fatalf("Query(%d, %d): %v, wanted %v", all, none, l, w.query(all, none))
			}
		}
	}
}

// draw gives numbers by a fixed rule.
func draw() func(below int) int {
	state := uint32(2463534242)
	return func(below int) int {
		state ^= state << 13
		state ^= state >> 17
		state ^= state << 5
		return int(state>>1) % below
	}
}

// P8.1: New of each room has no entities, and the tick 1.
func TestNew(t *testing.T) {
	for room := range maxRoom + 1 {
		w := made(t, room)
		w.there()
		w.told()
	}
	made(t, 4).same()
}

// P8.1: where there can't be so much room, New answers the pool's error, and no store.
func TestNewWrong(t *testing.T) {
	for _, room := range []int{-1, 257, -2, -256, 258, 512, math.MinInt, math.MaxInt, 1 << 32, 1<<32 + 1, -1 << 32, -1<<32 + 4} {
		if s, e := store.New(room); s != nil || e != api.ErrArg {
			t.Errorf("New(%d): %v %d", room, s, e)
		}
	}
}

// P8.1: rooms of 0, 1 and 256 are filled to the last one; then there is ErrFull, and nothing changes.
func TestRooms(t *testing.T) {
	for _, room := range []int{0, 1, 2, 255, 256} {
		w := made(t, room)
		for n := range room {
			w.spawn(pick(full(n), n*7%sets))
		}
		w.same()
		w.next()
		w.spawn(full(1))
		w.spawn(api.Parts{})
		w.same()
		if room == 0 {
			continue
		}
		gone := api.ID(room / 2)
		w.despawn(gone)
		w.spawn(high())
		w.spawn(low())
		w.same()
	}
}

// P8.1: an entity of each set has the values that it was given, at the limits too, and its name is the pool's.
func TestSpawn(t *testing.T) {
	w := made(t, 160)
	for s := range sets {
		for _, p := range []api.Parts{full(s), low(), high(), {}, full(3 * s)} {
			w.spawn(pick(p, s))
		}
		w.next()
	}
	w.same()
}

// P8.1: parts that may not be are ErrArg, ahead of ErrFull; no name is given, and nothing changes.
func TestSpawnWrong(t *testing.T) {
	for _, w := range []*world{filled(t, 0), filled(t, 1, 31), filled(t, 5, 3, 8)} {
		for _, p := range wrongParts() {
			if id, e := w.s.Spawn(p); id != 0 || e != api.ErrArg {
				t.Fatalf("Spawn(%v): %d %d", p, id, e)
			}
		}
		w.same()
		w.spawn(full(7))
		w.same()
	}
}

// P8.1: a name that goes isn't there any more; its index gives another one, with its own parts and tick.
func TestDespawn(t *testing.T) {
	for s := range sets {
		for gone := range 4 {
			w := filled(t, 4, s, s, 31-s, s)
			w.next()
			w.despawn(api.ID(gone))
			w.same()
			w.despawn(api.ID(gone))
			w.same()
			w.next()
			if id := w.spawn(pick(full(60), 31-s)); id != api.ID(256+gone) {
				t.Fatalf("Spawn: %d, wanted %d", id, 256+gone)
			}
			w.same()
			w.despawn(api.ID(256 + gone))
			w.despawn(api.ID(gone))
			w.same()
		}
	}
}

// P8.1: the same entity's index goes, and comes, till it has no generation left; all goings are told, each at its tick.
func TestAllGenerations(t *testing.T) {
	w := made(t, 1)
	for n := range generations {
		if n%1000 == 0 {
			w.next()
		}
		w.spawn(api.Parts{Has: 8, Layer: n % 256})
		w.despawn(api.ID(256 * n))
	}
	w.spawn(api.Parts{})
	w.same()
}

// P8.1: of each set each set's kinds are put, and cut; who has the same set keeps its row, who hasn't goes behind all.
func TestPutCutEachSet(t *testing.T) {
	for s := range sets {
		for kinds := range sets {
			w := filled(t, 4, s, s, s, s|kinds)
			w.next()
			w.put(0, pick(full(50), kinds), listed(kinds)...)
			w.there()
			w.put(1, full(51), listed(kinds)...)
			w.cut(3, listed(kinds)...)
			w.there()
			w.next()
			w.cut(1, listed(kinds)...)
			w.there()
			w.told()
			if l := w.s.Query(0, 0); !slices.Equal(l, w.query(0, 0)) {
				t.Fatalf("Query(0, 0): %v, wanted %v", l, w.query(0, 0))
			}
		}
	}
}

// P8.1: a set that changes and changes back moves the rows of both tables.
func TestThereAndBack(t *testing.T) {
	w := filled(t, 8, 8, 8, 8, 24, 24, 24)
	hide := api.Parts{Has: 16}
	for _, step := range []struct {
		id          api.ID
		there       bool
		bare, hides []api.ID
	}{
		{0, true, []api.ID{2, 1}, []api.ID{3, 4, 5, 0}},
		{0, false, []api.ID{2, 1, 0}, []api.ID{3, 4, 5}},
		{3, false, []api.ID{2, 1, 0, 3}, []api.ID{5, 4}},
		{1, true, []api.ID{2, 3, 0}, []api.ID{5, 4, 1}},
		{3, true, []api.ID{2, 0}, []api.ID{5, 4, 1, 3}},
		{1, false, []api.ID{2, 0, 1}, []api.ID{5, 4, 3}},
	} {
		w.next()
		if step.there {
			w.put(step.id, hide, 4)
		} else {
			w.cut(step.id, 4)
		}
		w.same()
		if l := w.s.Query(8, 16); !slices.Equal(l, step.bare) {
			t.Errorf("Query(8, 16): %v, wanted %v", l, step.bare)
		}
		if l := w.s.Query(16, 0); !slices.Equal(l, step.hides) {
			t.Errorf("Query(16, 0): %v, wanted %v", l, step.hides)
		}
	}
}

// P8.1: Put and Cut of no kinds, of what it has already, and of what it hasn't, change nothing but the tick at which it changed.
func TestNothingNew(t *testing.T) {
	for s := range sets {
		w := filled(t, 3, s, s, s)
		w.next()
		w.put(0, full(9))
		w.told()
		w.next()
		w.put(1, pick(full(1), s), listed(s)...)
		w.told()
		w.next()
		w.cut(0)
		w.told()
		w.next()
		w.cut(2, listed(31-s)...)
		w.same()
	}
}

// P8.1: kinds that stand twice, or in another order, are the same kinds.
func TestKindsTwice(t *testing.T) {
	w := filled(t, 3, 1, 7, 31)
	w.next()
	w.put(0, full(8), 3, 0, 3, 1, 0)
	w.cut(1, 2, 0, 2)
	w.cut(2, 4, 3, 2, 1, 0, 4)
	w.same()
}

// P8.1: a kind that is none, that p hasn't, or a p that may not be, is ErrArg, and nothing changes.
func TestPutCutWrong(t *testing.T) {
	w := filled(t, 5, 0, 31, 9, 22)
	w.next()
	for id := range api.ID(4) {
		for _, kind := range wrongKinds() {
			for _, l := range [][]api.Kind{{kind}, {0, kind}, {kind, 4}, {3, kind, 3}} {
				if e := w.s.Put(id, full(5), l...); e != api.ErrArg {
					t.Errorf("Put(%d, %v): %d", id, l, e)
				}
				if e := w.s.Cut(id, l...); e != api.ErrArg {
					t.Errorf("Cut(%d, %v): %d", id, l, e)
				}
			}
		}
		for kind := range 5 {
			lacks := pick(full(6), 31-1<<kind)
			for _, l := range [][]api.Kind{{api.Kind(kind)}, {0, 1, 2, 3, 4}} {
				if e := w.s.Put(id, lacks, l...); e != api.ErrArg {
					t.Errorf("Put(%d, %v): %d", id, l, e)
				}
			}
		}
		for _, p := range wrongParts() {
			for s := range sets {
				if e := w.s.Put(id, p, listed(s)...); e != api.ErrArg {
					t.Errorf("Put(%d, %v): %d", id, p, e)
				}
			}
		}
	}
	w.same()
}

// P8.1: a name that doesn't live is ErrNone, ahead of ErrArg, false, and 0 of Touch; nothing changes.
func TestStrangers(t *testing.T) {
	w := filled(t, 6, 3, 8, 31, 24)
	w.next()
	w.despawn(1)
	w.despawn(2)
	w.spawn(full(30))
	w.next()
	for _, id := range w.strangers() {
		w.despawn(id)
		w.put(id, full(1))
		w.put(id, full(1), 0, 1, 2, 3, 4)
		w.cut(id)
		w.cut(id, 0, 1)
		w.touch(id)
		for _, p := range wrongParts() {
			if e := w.s.Put(id, p, 0); e != api.ErrNone {
				t.Errorf("Put(%d): %d", id, e)
			}
		}
		for _, kind := range wrongKinds() {
			if e := w.s.Put(id, full(1), kind); e != api.ErrNone {
				t.Errorf("Put(%d, _, %d): %d", id, kind, e)
			}
			if e := w.s.Cut(id, kind); e != api.ErrNone {
				t.Errorf("Cut(%d, %d): %d", id, kind, e)
			}
		}
	}
	w.same()
}

// P8.1: Touch counts each name that lives as often as it stands, and changes those alone.
func TestTouch(t *testing.T) {
	w := filled(t, 6, 1, 2, 31, 24, 0)
	w.next()
	w.despawn(3)
	for _, l := range [][]api.ID{nil, {}, {0}, {2, 2}, {4, 0, 4, 0, 4}, {3}, {3, 1, 3}, {-1, 257, 5, 256}, farNames(), {1, math.MinInt, 2, 1 << 32, 1}} {
		w.next()
		w.touch(l...)
		w.same()
	}
}

// P8.1: Query of all pairs of sets, with entities of all sets, some of which moved.
func TestQuery(t *testing.T) {
	w := made(t, 128)
	for n := range 128 {
		w.spawn(pick(full(n), n*13%sets))
	}
	for n := range 60 {
		w.cut(api.ID(n), api.Kind(n%5))
		w.put(api.ID(2*n), full(n), api.Kind(n%3), api.Kind(n%4))
		w.despawn(api.ID(127 - n*2))
	}
	for all := range api.Set(sets) {
		for none := range api.Set(sets) {
			if l := w.s.Query(all, none); !slices.Equal(l, w.query(all, none)) {
				t.Fatalf("Query(%d, %d): %v, wanted %v", all, none, l, w.query(all, none))
			}
		}
	}
	w.same()
}

// P8.1: Query's numbers are any bits: those of no kind nobody has; the same bits in both are nobody's, if there is one.
func TestQueryAnyBits(t *testing.T) {
	w := filled(t, 8, 31, 0, 8, 0, 24, 31)
	for _, x := range []struct {
		all, none api.Set
		want      []api.ID
	}{
		{0, 0, []api.ID{1, 3, 2, 4, 0, 5}},
		{-1, 0, nil},
		{0, -1, []api.ID{1, 3}},
		{-1, -1, nil},
		{31, 0, []api.ID{0, 5}},
		{31, -32, []api.ID{0, 5}},
		{32, 0, nil},
		{0, 32, []api.ID{1, 3, 2, 4, 0, 5}},
		{8 + 64, 0, nil},
		{1<<32 + 8, 0, nil},
		{8, 1<<32 + 1, []api.ID{2, 4}},
		{math.MinInt, 0, nil},
		{0, math.MinInt, []api.ID{1, 3, 2, 4, 0, 5}},
		{0, math.MaxInt, []api.ID{1, 3}},
		{8, 8, nil},
		{24, 16, nil},
		{8, 16, []api.ID{2}},
	} {
		if l := w.s.Query(x.all, x.none); !slices.Equal(l, x.want) {
			t.Errorf("Query(%d, %d): %v, wanted %v", x.all, x.none, l, x.want)
		}
	}
}

// P8.1: Changed and Gone are rising by names, which is not by indexes, nor as they went.
func TestRising(t *testing.T) {
	w := filled(t, 5, 1, 1, 1, 1, 1)
	w.next()
	for _, id := range []api.ID{3, 0, 2} {
		w.despawn(id)
	}
	for range 3 {
		w.spawn(full(2))
	}
	w.next()
	for _, id := range []api.ID{256, 1} {
		w.despawn(id)
	}
	if l := w.s.All(); !slices.Equal(l, []api.ID{258, 259, 4}) {
		t.Errorf("All: %v", l)
	}
	if l := w.s.Changed(0); !slices.Equal(l, []api.ID{4, 258, 259}) {
		t.Errorf("Changed(0): %v", l)
	}
	for since, want := range [][]api.ID{{0, 1, 2, 3, 256}, {0, 1, 2, 3, 256}, {1, 256}, nil} {
		if l := w.s.Gone(since); !slices.Equal(l, want) {
			t.Errorf("Gone(%d): %v, wanted %v", since, l, want)
		}
	}
	w.same()
}

// P8.1: who comes and goes at one tick is told as gone, and not as changed.
func TestComeAndGo(t *testing.T) {
	w := filled(t, 2, 3)
	w.next()
	id := w.spawn(full(3))
	w.touch(id)
	w.despawn(id)
	w.same()
	if l := w.s.Changed(1); len(l) != 0 || !slices.Equal(w.s.Gone(1), []api.ID{id}) {
		t.Errorf("Changed(1): %v, Gone(1): %v", l, w.s.Gone(1))
	}
}

// P8.1: Next without an end adds 1 each time, and lets nobody change.
func TestNext(t *testing.T) {
	w := filled(t, 3, 1, 2)
	for range 1000 {
		w.next()
	}
	w.same()
	if n := w.s.Tick(); n != 1001 {
		t.Errorf("Tick: %d", n)
	}
}

// P8.1: all calls in many orders, in small stores and great ones, each of them held against what is kept by hand.
func TestManyOrders(t *testing.T) {
	next := draw()
	for _, room := range []int{1, 2, 3, 5, 9, 40} {
		for spawns := 1; spawns <= 4; spawns++ {
			w := made(t, room)
			for n := range 250 {
				w.step(next, n, spawns)
				w.there()
				w.told()
				all, none := asked()[next(len(asked()))], api.Set(next(sets))
				if l := w.s.Query(all, none); !slices.Equal(l, w.query(all, none)) {
					t.Fatalf("Query(%d, %d): %v, wanted %v", all, none, l, w.query(all, none))
				}
				if n%25 == 0 {
					w.same()
				}
			}
		}
	}
}

// step does one of the calls, at names that may live or not.
func (w *world) step(next func(int) int, n, spawns int) {
	w.t.Helper()
	id, kinds := w.some(next), next(sets)
	switch kind := next(10); {
	case kind < spawns:
		w.spawn(pick(full(n), kinds))
	case kind == 4:
		w.despawn(id)
	case kind == 5:
		w.put(id, full(n), listed(kinds)...)
	case kind == 6:
		w.cut(id, listed(kinds)...)
	case kind == 7:
		w.put(id, full(n), api.Kind(next(5)))
	case kind == 8:
		w.touch(id, w.some(next), w.some(next))
	default:
		w.next()
	}
}

// some is a name that lives, if one does, and now and then one that doesn't.
func (w *world) some(next func(int) int) api.ID {
	l := w.ids()
	if len(l) == 0 || next(8) == 0 {
		l = w.strangers()
	}
	return l[next(len(l))]
}

// P8.2: all entities' parts are written down at the end of each tick; whoever has others later, or came, changed since, and whoever isn't there any more went since.
func TestAllChangesAreTold(t *testing.T) {
	next := draw()
	for _, room := range []int{1, 3, 12, 60} {
		w, noted := made(t, room), map[int]map[api.ID]api.Parts{0: nil}
		for n := range 400 {
			// Each tick's is written down anew till the tick moves on.
			noted[w.tick] = noting(w.s)
			w.step(next, n, 3)
			if n%20 > 0 {
				continue
			}
			for tick, then := range noted {
				if tick < w.tick {
					compare(t, w.s, tick, then)
				}
			}
		}
	}
}

// noting is who is there, with what parts.
func noting(s *store.Store) map[api.ID]api.Parts {
	out := map[api.ID]api.Parts{}
	for _, id := range s.All() {
		out[id], _ = s.Get(id)
	}
	return out
}

// compare holds what is told since a tick against what differs from what was written down at its end.
func compare(t *testing.T, s *store.Store, tick int, noted map[api.ID]api.Parts) {
	t.Helper()
	now, changed, gone := noting(s), s.Changed(tick), s.Gone(tick)
	for id, p := range now {
		if old, was := noted[id]; (!was || old != p) && !slices.Contains(changed, id) {
			t.Fatalf("Changed(%d): %v, without %d", tick, changed, id)
		}
	}
	for id := range noted {
		if _, is := now[id]; !is && !slices.Contains(gone, id) {
			t.Fatalf("Gone(%d): %v, without %d", tick, gone, id)
		}
	}
}

// P8.2: each kind of change, alone, at a tick of its own, is told since each tick ahead of it, and no later.
func TestEachChangeIsTold(t *testing.T) {
	for _, change := range []func(w *world){
		func(w *world) { w.put(1, full(77), 0) },
		func(w *world) { w.put(1, full(77), 4) },
		func(w *world) { w.put(1, pick(full(1), 3), 1) },
		func(w *world) { w.put(1, full(5)) },
		func(w *world) { w.cut(1, 0) },
		func(w *world) { w.cut(1) },
		func(w *world) { w.touch(1) },
		func(w *world) { w.touch(0, 1, 1) },
	} {
		w := filled(t, 4, 3, 3, 31)
		w.next()
		w.next()
		change(w)
		for since := range 3 {
			if l := w.s.Changed(since); !slices.Contains(l, 1) {
				t.Errorf("Changed(%d): %v", since, l)
			}
		}
		if l := w.s.Changed(3); len(l) != 0 {
			t.Errorf("Changed(3): %v", l)
		}
		if l := w.s.Changed(1); slices.Contains(l, 2) {
			t.Errorf("Changed(1): %v", l)
		}
		w.same()
	}
}

// P8.1, P1: on a nil store ErrArg, nothing, false, 0.
func TestNil(t *testing.T) {
	var s *store.Store
	for _, p := range append(wrongParts(), api.Parts{}, full(1)) {
		if id, e := s.Spawn(p); id != 0 || e != api.ErrArg || s.Put(0, p) != api.ErrArg || s.Put(0, p, 0) != api.ErrArg {
			t.Errorf("Spawn: %d %d", id, e)
		}
	}
	for _, id := range append(farNames(), 0, 1, 256) {
		if s.Despawn(id) != api.ErrArg || s.Put(id, full(1), 1) != api.ErrArg || s.Cut(id) != api.ErrArg || s.Cut(id, 0) != api.ErrArg {
			t.Errorf("Despawn(%d): %d", id, s.Despawn(id))
		}
		if p, ok := s.Get(id); p != (api.Parts{}) || ok || s.Touch(id, id) != 0 {
			t.Errorf("Get(%d): %v %t", id, p, ok)
		}
	}
	for _, kind := range wrongKinds() {
		if s.Put(0, full(1), kind) != api.ErrArg || s.Cut(0, kind) != api.ErrArg {
			t.Errorf("Cut(0, %d): %d", kind, s.Cut(0, kind))
		}
	}
	for _, all := range asked() {
		if l := s.Query(all, 0); len(l) != 0 || len(s.Query(0, all)) != 0 {
			t.Errorf("Query(%d, 0): %v", all, l)
		}
	}
	for _, since := range []int{math.MinInt, -1, 0, 1, math.MaxInt} {
		if len(s.Changed(since)) != 0 || len(s.Gone(since)) != 0 {
			t.Errorf("Changed(%d): %v", since, s.Changed(since))
		}
	}
	if s.Tick() != 0 || s.Next() != 0 || s.Next() != 0 || s.Tick() != 0 || len(s.All()) != 0 || s.Touch() != 0 {
		t.Errorf("Tick: %d", s.Tick())
	}
}

// P2 and the rule of new memory: what is written into an answer, or into an argument behind a call, is not seen by a later call.
func TestAnswersAreNew(t *testing.T) {
	w := filled(t, 6, 8, 8, 24, 31)
	w.despawn(0)
	w.despawn(3)
	names, kinds := []api.ID{1, 2}, []api.Kind{3, 4}
	w.touch(names...)
	w.put(1, full(4), kinds...)
	w.cut(2, kinds[:1]...)
	if !slices.Equal(names, []api.ID{1, 2}) || !slices.Equal(kinds, []api.Kind{3, 4}) {
		t.Errorf("arguments: %v %v", names, kinds)
	}
	names[0], kinds[0] = 77, 0
	for _, ask := range []func() []api.ID{
		func() []api.ID { return w.s.All() },
		func() []api.ID { return w.s.Query(8, 0) },
		func() []api.ID { return w.s.Query(0, 0) },
		func() []api.ID { return w.s.Changed(0) },
		func() []api.ID { return w.s.Gone(0) },
	} {
		first, second := ask(), ask()
		want := slices.Clone(second)
		for n := range first {
			first[n] = 99
		}
		// Behind the length there may be room, which nobody else may look at.
		_ = append(first, 98)
		if !slices.Equal(second, want) {
			t.Errorf("kept: %v, wanted %v", second, want)
		}
		w.same()
	}
}

// P2: two stores have nothing in common.
func TestTwoStores(t *testing.T) {
	v, w := filled(t, 4, 31, 8, 8), filled(t, 4, 8, 31)
	v.next()
	v.despawn(1)
	w.put(1, full(40), 0)
	v.touch(0)
	w.spawn(high())
	w.cut(0, 3)
	v.same()
	w.same()
}
