package scene_test

import (
	"math"
	"slices"
	"testing"

	"gesso/api"
	"gesso/flow"
	"gesso/scene"
)

// The limits as the document writes them, so that a test leans on no constant of the program.
const (
	least       = -2147483648
	greatest    = 2147483647
	sets        = 32
	maxRoom     = 256
	generations = 65536
)

// same leaves all as it is, written out.
var same = api.Mat{65536, 0, 0, 0, 0, 65536, 0, 0, 0, 0, 65536, 0}

// wrongKinds are numbers that are no kinds.
func wrongKinds() []api.Kind {
	return []api.Kind{math.MinInt, -1 << 32, -5, -1, 5, 6, 31, 32, 64, 1 << 32, 1<<32 + 4, math.MaxInt}
}

// farNames are numbers that are no names, and names that a pool gives late; some would be 0 or 1 if they were cut short.
func farNames() []api.ID {
	return []api.ID{-1, -2, -255, -256, math.MinInt, math.MinInt + 1, math.MaxInt, 1 << 24, 1<<24 + 1, 1<<24 - 1, 1 << 32, 1<<32 + 1, -1 << 32, -1<<32 + 1, 65535 * 256, least, greatest}
}

// farTicks are ticks below 0, and to come.
func farTicks() []int {
	return []int{math.MinInt, math.MinInt + 1, -1 << 32, least, -2, -1, 0, 1 << 24, greatest, 1 << 32, 1<<32 + 1, math.MaxInt}
}

// has tells whether a set has a kind, by its bit.
func has(s api.Set, kind int) bool { return s>>kind&1 == 1 }

// lay writes q's values of the kinds of a set over p's, written out.
func lay(p, q api.Parts, s api.Set) api.Parts {
	if has(s, 0) {
		p.Place = q.Place
	}
	if has(s, 1) {
		p.Mesh, p.Box = q.Mesh, q.Box
	}
	if has(s, 2) {
		p.Pipe, p.Material, p.Clear = q.Pipe, q.Material, q.Clear
	}
	if has(s, 3) {
		p.Layer = q.Layer
	}
	p.Has |= s
	return p
}

// pick is, of each kind of a set, p's values.
func pick(p api.Parts, s api.Set) api.Parts { return lay(api.Parts{}, p, s) }

// full has all kinds; each of its values is another one, and those of another n are others.
func full(n int) api.Parts {
	p := api.Parts{Has: 31, Mesh: (n + 3) % 256, Pipe: (n + 4) % 64, Material: (n + 5) % 256, Clear: n%2 == 1, Layer: (n + 6) % 256}
	for place := range p.Place {
		p.Place[place] = api.F(1000*n + 10 + place)
	}
	for place := range 3 {
		p.Box.Min[place], p.Box.Max[place] = api.F(-1000*n-30-place), api.F(1000*n+40+place)
	}
	return p
}

// edge has all kinds, with these numbers at its place and its box.
func edge(x api.F) api.Parts {
	p := full(2)
	p.Box = api.Box{Min: api.Vec{x, x, x}, Max: api.Vec{x, x, x}}
	for place := range p.Place {
		p.Place[place] = x
	}
	return p
}

// wrongParts are parts that may not be.
func wrongParts() (l []api.Parts) {
	for _, change := range []func(p *api.Parts){
		func(p *api.Parts) { p.Place[0] = greatest + 1 },
		func(p *api.Parts) { p.Place[11] = least - 1 },
		func(p *api.Parts) { p.Mesh = 256 },
		func(p *api.Parts) { p.Box.Min[1] = p.Box.Max[1] + 1 },
		func(p *api.Parts) { p.Pipe = 64 },
		func(p *api.Parts) { p.Material = -1 },
		func(p *api.Parts) { p.Layer = 256 },
		func(p *api.Parts) { p.Has = 0 },
		func(p *api.Parts) { p.Has = 30 },
		func(p *api.Parts) { p.Has = 29 },
		func(p *api.Parts) { p.Has = 27 },
		func(p *api.Parts) { p.Has = 23 },
		func(p *api.Parts) { p.Has = -1 },
		func(p *api.Parts) { p.Has = 32 },
		func(p *api.Parts) { p.Has = 1<<32 + 31 },
	} {
		p := full(1)
		change(&p)
		l = append(l, p)
	}
	return append(l, api.Parts{Has: 32}, api.Parts{Has: -1}, api.Parts{Has: math.MinInt})
}

// listed are a set's kinds, rising.
func listed(s api.Set) (l []api.Kind) {
	for kind := range 5 {
		if has(s, kind) {
			l = append(l, api.Kind(kind))
		}
	}
	return l
}

// being is an entity that is kept by hand.
type being struct {
	id     api.ID
	parent api.ID // -1, if it has none
	p      api.Parts
	tick   int
}

// world is a scene, and the same by the document's words: who lives, by indexes, and who went.
type world struct {
	t     *testing.T
	s     *scene.Scene
	room  int
	gens  [maxRoom]int
	lives [maxRoom]bool
	all   [maxRoom]being
	tick  int
	gone  []being
}

// made is a scene without entities, and the same by hand.
func made(t *testing.T, room int) *world {
	t.Helper()
	s, e := scene.New(room)
	if s == nil || e != api.OK {
		t.Fatalf("New(%d): %v %d", room, s, e)
	}
	return &world{t: t, s: s, room: room, tick: 1}
}

// grown is a scene with an entity for each of these parents, or -1, all at tick 1; then the tick is 2.
func grown(t *testing.T, room int, parents ...api.ID) *world {
	t.Helper()
	w := made(t, room)
	for n := range parents {
		w.spawn(pick(full(n), api.Set(n*7%sets)), -1)
	}
	for n, parent := range parents {
		if parent >= 0 && w.adopt(api.ID(n), parent) != api.OK {
			t.Fatalf("no forest: %v", parents)
		}
	}
	w.next()
	return w
}

// find is the entity of a name; nil, if it doesn't live.
func (w *world) find(id api.ID) *being {
	for index := range w.room {
		if w.lives[index] && w.all[index].id == id {
			return &w.all[index]
		}
	}
	return nil
}

// free is the least index that has a name to give; -1, if there is none.
func (w *world) free() int {
	for index := range w.room {
		if !w.lives[index] && w.gens[index] < generations {
			return index
		}
	}
	return -1
}

// spawn spawns in both, parts that may be.
func (w *world) spawn(p api.Parts, parent api.ID) (api.ID, api.Errno) {
	w.t.Helper()
	index, want, wanted := w.free(), api.ID(0), api.OK
	switch {
	case parent >= 0 && w.find(parent) == nil:
		wanted = api.ErrNone
	case index < 0:
		wanted = api.ErrFull
	default:
		want = api.ID(256*w.gens[index] + index)
		w.lives[index], w.all[index] = true, being{want, max(parent, -1), p, w.tick}
	}
	id, e := w.s.Spawn(p, parent)
	if id != want || e != wanted {
		w.t.Fatalf("Spawn(_, %d): %d %d, wanted %d %d", parent, id, e, want, wanted)
	}
	return id, e
}

// despawn lets one go in both.
func (w *world) despawn(id api.ID) api.Errno {
	w.t.Helper()
	want := api.ErrNone
	for index := range w.room {
		b := &w.all[index]
		if !w.lives[index] || b.id != id {
			continue
		}
		want = api.OK
		w.lives[index] = false
		w.gens[index]++
		w.gone = append(w.gone, being{id: id, tick: w.tick})
	}
	for index := range w.room {
		if b := &w.all[index]; want == api.OK && w.lives[index] && b.parent == id {
			b.parent, b.tick = -1, w.tick
		}
	}
	if e := w.s.Despawn(id); e != want {
		w.t.Fatalf("Despawn(%d): %d, wanted %d", id, e, want)
	}
	return want
}

// put puts kinds in both, which p has.
func (w *world) put(id api.ID, p api.Parts, l ...api.Kind) {
	w.t.Helper()
	want := api.ErrNone
	if b := w.find(id); b != nil {
		for _, kind := range l {
			b.p = lay(b.p, p, 1<<kind)
		}
		b.tick, want = w.tick, api.OK
	}
	if e := w.s.Put(id, p, l...); e != want {
		w.t.Fatalf("Put(%d, %v): %d, wanted %d", id, l, e, want)
	}
}

// cut cuts kinds in both.
func (w *world) cut(id api.ID, l ...api.Kind) {
	w.t.Helper()
	want := api.ErrNone
	if b := w.find(id); b != nil {
		for _, kind := range l {
			b.p = pick(b.p, b.p.Has&^(1<<kind))
		}
		b.tick, want = w.tick, api.OK
	}
	if e := w.s.Cut(id, l...); e != want {
		w.t.Fatalf("Cut(%d, %v): %d, wanted %d", id, l, e, want)
	}
}

// isAbove tells whether a name is another one, or above it.
func (w *world) isAbove(id, under api.ID) bool {
	for b := w.find(under); b != nil; b = w.find(b.parent) {
		if b.id == id {
			return true
		}
	}
	return false
}

// adopt gives a child a parent in both.
func (w *world) adopt(child, parent api.ID) api.Errno {
	w.t.Helper()
	b, want := w.find(child), api.OK
	switch {
	case b == nil || w.find(parent) == nil:
		want = api.ErrNone
	case w.isAbove(child, parent):
		want = api.ErrCycle
	default:
		b.parent, b.tick = parent, w.tick
	}
	if e := w.s.Adopt(child, parent); e != want {
		w.t.Fatalf("Adopt(%d, %d): %d, wanted %d", child, parent, e, want)
	}
	return want
}

// loosen frees a child in both.
func (w *world) loosen(child api.ID) api.Errno {
	w.t.Helper()
	b, want := w.find(child), api.OK
	switch {
	case b == nil:
		want = api.ErrNone
	case b.parent >= 0:
		b.parent, b.tick = -1, w.tick
	}
	if e := w.s.Free(child); e != want {
		w.t.Fatalf("Free(%d): %d, wanted %d", child, e, want)
	}
	return want
}

// next is the next tick of both.
func (w *world) next() {
	w.t.Helper()
	w.tick++
	if n := w.s.Next(); n != w.tick {
		w.t.Fatalf("Next: %d, wanted %d", n, w.tick)
	}
}

// ids are all that live, by indexes.
func (w *world) ids() (l []api.ID) {
	for index := range w.room {
		if w.lives[index] {
			l = append(l, w.all[index].id)
		}
	}
	return l
}

// changed are those that changed above a tick, rising.
func (w *world) changed(since int) (l []api.ID) {
	for index := range w.room {
		if w.lives[index] && w.all[index].tick > since {
			l = append(l, w.all[index].id)
		}
	}
	slices.Sort(l)
	return l
}

// went are those that went above a tick, rising.
func (w *world) went(since int) (l []api.ID) {
	for _, x := range w.gone {
		if x.tick > since {
			l = append(l, x.id)
		}
	}
	slices.Sort(l)
	return l
}

// strangers are names that don't live: of other generations of each index, of indexes beyond the room, those that went, and far ones.
func (w *world) strangers() (l []api.ID) {
	for index := range min(w.room+2, maxRoom) {
		for _, gen := range []int{w.gens[index] - 1, w.gens[index], w.gens[index] + 1} {
			l = append(l, api.ID(256*gen+index))
		}
	}
	for _, x := range w.gone[max(0, len(w.gone)-20):] {
		l = append(l, x.id)
	}
	l = append(l, farNames()...)
	return slices.DeleteFunc(l, func(id api.ID) bool { return w.find(id) != nil })
}

// one asks for all that is told of a name, and holds it against what is kept by hand.
func (w *world) one(id api.ID) {
	w.t.Helper()
	var parts api.Parts
	var parent api.ID
	var node flow.Node
	b := w.find(id)
	if b != nil {
		parts, parent = b.p, max(b.parent, 0)
		node = flow.Node{ID: id, Parent: b.parent, Place: same, Hidden: has(b.p.Has, 4)}
		if has(b.p.Has, 0) {
			node.Place = b.p.Place
		}
	}
	if p, ok := w.s.Get(id); p != parts || ok != (b != nil) {
		w.t.Fatalf("Get(%d): %v %t, wanted %v", id, p, ok, parts)
	}
	if p, ok := w.s.Parent(id); p != parent || ok != (b != nil && b.parent >= 0) {
		w.t.Fatalf("Parent(%d): %d %t, wanted %d", id, p, ok, parent)
	}
	if n, ok := w.s.Node(id); n != node || ok != (b != nil) {
		w.t.Fatalf("Node(%d): %v %t, wanted %v", id, n, ok, node)
	}
}

// told asks who changed, and who went, since a tick.
func (w *world) told(since int) {
	w.t.Helper()
	if l := w.s.Changed(since); !slices.Equal(l, w.changed(since)) {
		w.t.Fatalf("Changed(%d): %v, wanted %v", since, l, w.changed(since))
	}
	if l := w.s.Gone(since); !slices.Equal(l, w.went(since)) {
		w.t.Fatalf("Gone(%d): %v, wanted %v", since, l, w.went(since))
	}
}

// there asks for all entities, the tick, and of each name for all that is told.
func (w *world) there() {
	w.t.Helper()
	if l := w.s.All(); !slices.Equal(l, w.ids()) {
		w.t.Fatalf("All: %v, wanted %v", l, w.ids())
	}
	if n := w.s.Tick(); n != w.tick {
		w.t.Fatalf("Tick: %d, wanted %d", n, w.tick)
	}
	for _, id := range append(w.ids(), w.strangers()...) {
		w.one(id)
	}
}

// same asks for all that is told, since the last ticks, the first ones, and far ones, and holds it against what is kept by hand.
func (w *world) same() {
	w.t.Helper()
	w.there()
	for since := max(0, w.tick-12); since <= w.tick+1; since++ {
		w.told(since)
	}
	for _, since := range append(farTicks(), 1, 2, 3) {
		w.told(since)
	}
}

// draw gives numbers by a fixed rule.
func draw() func(below int) int {
	state := uint32(2463534242)
	return func(below int) int {
		state ^= state << 13
		state ^= state >> 17
		state ^= state << 5
		return int(state>>1) % below
	}
}

// P11.1: each room from 0 to 256 may be: the scene is empty, at tick 1, and takes that many entities.
func TestNew(t *testing.T) {
	for _, room := range []int{0, 1, 2, 17, 255, 256} {
		w := made(t, room)
		w.same()
		for n := range room {
			w.spawn(api.Parts{}, api.ID(n-1))
		}
		if _, e := w.spawn(api.Parts{}, -1); e != api.ErrFull {
			t.Errorf("room %d: Spawn: %d", room, e)
		}
		w.same()
	}
}

// P11.1: no other room may be; there is no scene then.
func TestNewWrong(t *testing.T) {
	for _, room := range []int{-1, -2, -256, 257, 258, 512, 65536, least, greatest, 1 << 32, 1<<32 + 1, -1<<32 + 1, math.MinInt, math.MaxInt} {
		if s, e := scene.New(room); s != nil || e != api.ErrArg {
			t.Errorf("New(%d): %v %d", room, s, e)
		}
	}
}

// P11.1: answers that are written out, from an empty scene on.
func TestWrittenOut(t *testing.T) {
	s, _ := scene.New(5)
	m := api.Mat{1, 2, 3, 4, 5, 6, 7, 8, 9, 10, 11, 12}
	for n, x := range []struct {
		p      api.Parts
		parent api.ID
		want   flow.Node
	}{
		{api.Parts{Has: 1, Place: m}, -1, flow.Node{ID: 0, Parent: -1, Place: m}},
		{api.Parts{Has: 16}, 0, flow.Node{ID: 1, Parent: 0, Place: same, Hidden: true}},
		{api.Parts{Has: 17}, 1, flow.Node{ID: 2, Parent: 1, Hidden: true}},
		{api.Parts{Has: 8, Layer: 7}, 0, flow.Node{ID: 3, Parent: 0, Place: same}},
		{api.Parts{}, -9, flow.Node{ID: 4, Parent: -1, Place: same}},
	} {
		if id, e := s.Spawn(x.p, x.parent); id != api.ID(n) || e != api.OK {
			t.Fatalf("Spawn: %d %d, wanted %d", id, e, n)
		}
		if node, ok := s.Node(api.ID(n)); node != x.want || !ok {
			t.Errorf("Node(%d): %v %t, wanted %v", n, node, ok, x.want)
		}
	}
	for step, x := range []struct {
		do            func() api.Errno
		want          api.Errno
		changed, gone []api.ID
	}{
		{func() api.Errno { return s.Adopt(0, 2) }, api.ErrCycle, nil, nil},
		{func() api.Errno { return s.Adopt(2, 2) }, api.ErrCycle, nil, nil},
		{func() api.Errno { return s.Adopt(4, 2) }, api.OK, []api.ID{4}, nil},
		{func() api.Errno { return s.Adopt(4, 2) }, api.OK, []api.ID{4}, nil},
		{func() api.Errno { return s.Despawn(0) }, api.OK, []api.ID{1, 3}, []api.ID{0}},
		{func() api.Errno { return s.Despawn(0) }, api.ErrNone, nil, nil},
		{func() api.Errno { return s.Adopt(1, 0) }, api.ErrNone, nil, nil},
		{func() api.Errno { return s.Adopt(0, 1) }, api.ErrNone, nil, nil},
		{func() api.Errno { return s.Free(1) }, api.OK, nil, nil},
		{func() api.Errno { return s.Free(2) }, api.OK, []api.ID{2}, nil},
		{func() api.Errno { return s.Free(0) }, api.ErrNone, nil, nil},
		{func() api.Errno { return s.Cut(1, 4) }, api.OK, []api.ID{1}, nil},
		{func() api.Errno { return s.Put(3, api.Parts{Has: 1}, 0) }, api.OK, []api.ID{3}, nil},
		{func() api.Errno { return s.Put(3, api.Parts{Has: 1}, 1) }, api.ErrArg, nil, nil},
		{func() api.Errno { return s.Cut(3, 5) }, api.ErrArg, nil, nil},
		{func() api.Errno { return s.Despawn(3) }, api.OK, nil, []api.ID{3}},
	} {
		tick := s.Tick()
		if n := s.Next(); n != step+2 || s.Tick() != n {
			t.Errorf("step %d: Next: %d", step, n)
		}
		if e := x.do(); e != x.want {
			t.Errorf("step %d: %d, wanted %d", step, e, x.want)
		}
		if l := s.Changed(tick); !slices.Equal(l, x.changed) {
			t.Errorf("step %d: Changed(%d): %v, wanted %v", step, tick, l, x.changed)
		}
		if l := s.Gone(tick); !slices.Equal(l, x.gone) {
			t.Errorf("step %d: Gone(%d): %v, wanted %v", step, tick, l, x.gone)
		}
	}
	if l := s.All(); !slices.Equal(l, []api.ID{1, 2, 4}) {
		t.Errorf("All: %v", l)
	}
}

// P11.1: an entity of each set, without a parent and with one, is a node with its place or what leaves all, and hidden if it has hide.
func TestNodeEachSet(t *testing.T) {
	for s := range api.Set(sets) {
		for _, p := range []api.Parts{full(3), edge(least), edge(greatest), {}} {
			w := made(t, 3)
			w.spawn(pick(p, s), -1)
			w.spawn(pick(p, s), 0)
			w.same()
			w.next()
			w.put(0, full(9), listed(31-s)...)
			w.same()
			w.cut(1, listed(s)...)
			w.same()
			w.next()
			for kind := range api.Kind(5) {
				w.cut(0, kind)
				w.one(0)
				w.put(1, full(11), kind)
				w.one(1)
			}
			w.same()
		}
	}
}

// P11.1: a parent below 0 is none, whatever it is; 0 is one.
func TestSpawnBelow(t *testing.T) {
	for _, parent := range []api.ID{-1, -2, -255, -256, -257, -1 << 24, least, -1 << 32, math.MinInt} {
		w := made(t, 3)
		w.spawn(full(1), parent)
		w.spawn(full(2), parent)
		w.spawn(full(3), 0)
		if _, ok := w.s.Parent(2); !ok {
			t.Errorf("Parent(2): none")
		}
		w.same()
	}
}

// P11.1: a parent that doesn't live, or went, is ErrNone, ahead of ErrArg and ErrFull; no name is given, and nothing changes.
func TestSpawnStrangers(t *testing.T) {
	for _, w := range []*world{made(t, 0), made(t, 4), grown(t, 4, -1, 0), grown(t, 4, -1, 0, 1, 1)} {
		w.despawn(0)
		w.spawn(full(5), -1)
		w.next()
		for _, parent := range w.strangers() {
			if parent < 0 {
				continue
			}
			for _, p := range append(wrongParts(), api.Parts{}, full(1)) {
				if id, e := w.s.Spawn(p, parent); id != 0 || e != api.ErrNone {
					t.Fatalf("Spawn(%v, %d): %d %d", p, parent, id, e)
				}
			}
		}
		w.same()
		w.spawn(full(6), 256)
		w.same()
	}
}

// P11.1: parts that may not be are ErrArg, ahead of ErrFull; no name is given, and nothing changes.
func TestSpawnWrong(t *testing.T) {
	for _, w := range []*world{grown(t, 3, -1), grown(t, 3, -1, 0), grown(t, 3, 1, 2, -1)} {
		for _, p := range wrongParts() {
			for _, parent := range []api.ID{-1, math.MinInt, 0} {
				if id, e := w.s.Spawn(p, parent); id != 0 || e != api.ErrArg {
					t.Fatalf("Spawn(%v, %d): %d %d", p, parent, id, e)
				}
			}
		}
		w.same()
		w.spawn(full(7), 0)
		w.same()
	}
}

// P11.1: a scene that is full takes nobody, with and without a parent, till one goes.
func TestFull(t *testing.T) {
	for _, room := range []int{1, 2, 5, 256} {
		w := made(t, room)
		for n := range room {
			w.spawn(pick(full(n), api.Set(n%sets)), api.ID(n/2-1))
		}
		w.next()
		for _, parent := range []api.ID{-1, 0, api.ID(room - 1)} {
			if _, e := w.spawn(full(1), parent); e != api.ErrFull {
				t.Errorf("Spawn(_, %d): %d", parent, e)
			}
		}
		w.same()
		w.despawn(api.ID(room / 2))
		w.spawn(full(1), api.ID(room-1))
		w.spawn(full(2), api.ID(room-1))
		w.spawn(full(3), -1)
		w.same()
	}
}

// P11.1: an index that gave all its names gives none any more, with a parent or without; all that went of it stay gone.
func TestUsedUp(t *testing.T) {
	w := made(t, 2)
	w.spawn(full(1), -1)
	for n := range generations {
		if n%1000 == 0 {
			w.next()
		}
		w.spawn(api.Parts{Has: 8, Layer: n % 256}, 0)
		w.despawn(api.ID(256*n + 1))
	}
	for _, parent := range []api.ID{-1, 0} {
		if _, e := w.spawn(api.Parts{}, parent); e != api.ErrFull {
			t.Errorf("Spawn(_, %d): %d", parent, e)
		}
	}
	last := api.ID(256*(generations-1) + 1)
	for _, id := range []api.ID{1, 257, last, last + 256} {
		w.spawn(api.Parts{}, id)
		w.adopt(0, id)
		w.adopt(id, 0)
		w.loosen(id)
		w.despawn(id)
	}
	w.same()
}

// forests calls do with each forest of n entities: of each one its parent, or -1.
func forests(n int, do func(parents []api.ID)) {
	total := 1
	for range n {
		total *= n + 1
	}
	for code := range total {
		var parents []api.ID
		for range n {
			parents = append(parents, api.ID(code%(n+1)-1))
			code /= n + 1
		}
		if !ringed(parents) {
			do(parents)
		}
	}
}

// ringed tells whether one comes to no end when one goes from one to its parent.
func ringed(parents []api.ID) bool {
	for id := range parents {
		up := api.ID(id)
		for range parents {
			if up >= 0 {
				up = parents[up]
			}
		}
		if up >= 0 {
			return true
		}
	}
	return false
}

// P11.1: in each forest of four entities each adoption, at a tick of its own, and back: another parent, the same one, oneself, and rings.
func TestAdoptInEachForest(t *testing.T) {
	forests(4, func(parents []api.ID) {
		for child := range api.ID(4) {
			for parent := range api.ID(4) {
				w := grown(t, 4, parents...)
				w.adopt(child, parent)
				w.same()
				w.next()
				w.adopt(parent, child)
				w.same()
			}
		}
	})
}

// P11.1: in each forest of four entities each one is freed, twice, and adopted again; who is free already doesn't change.
func TestFreeInEachForest(t *testing.T) {
	forests(4, func(parents []api.ID) {
		for child := range api.ID(4) {
			w := grown(t, 4, parents...)
			w.loosen(child)
			w.same()
			w.next()
			w.loosen(child)
			w.same()
			w.adopt(child, (child+1)%4)
			w.same()
		}
	})
}

// P11.1: in each forest of four entities each one goes: its children, and no others, have no parent then, and changed; who comes next in its place has nobody's parent, and no children.
func TestDespawnInEachForest(t *testing.T) {
	forests(4, func(parents []api.ID) {
		for gone := range api.ID(4) {
			w := grown(t, 4, parents...)
			w.despawn(gone)
			w.same()
			w.next()
			w.spawn(full(8), -1)
			w.same()
			w.adopt((gone+1)%4, 256+gone)
			w.adopt((gone+2)%4, gone)
			w.adopt(gone, (gone+2)%4)
			w.same()
			w.despawn(256 + gone)
			w.same()
		}
	})
}

// P11.1: in each forest of four entities a fifth one comes below each one, and goes again with that one, ahead of it and behind it.
func TestSpawnInEachForest(t *testing.T) {
	forests(4, func(parents []api.ID) {
		for parent := range api.ID(4) {
			for _, order := range [][]api.ID{{parent, 4}, {4, parent}} {
				w := grown(t, 5, parents...)
				w.spawn(full(4), parent)
				w.same()
				w.next()
				for _, id := range order {
					w.despawn(id)
					w.same()
				}
			}
		}
	})
}

// P11.1: an adoption that would make a ring, or of oneself, is ErrCycle, at any depth: nobody changes, and the parent that there was stays.
func TestRings(t *testing.T) {
	w := made(t, 256)
	for n := range api.ID(256) {
		w.spawn(api.Parts{Has: 8, Layer: int(n)}, n-1)
	}
	w.next()
	for child := range api.ID(256) {
		for _, parent := range []api.ID{child, (child + 255) / 2, 255} {
			if e := w.adopt(child, parent); e != api.ErrCycle {
				t.Fatalf("Adopt(%d, %d): %d", child, parent, e)
			}
		}
	}
	w.same()
	w.adopt(128, 3)
	w.adopt(4, 255)
	w.adopt(3, 127)
	w.same()
	w.loosen(4)
	w.adopt(3, 127)
	w.same()
}

// P11.1: a parent of very many children goes: all of them have none, and changed; those of another one stay.
func TestWideFamily(t *testing.T) {
	w := made(t, 256)
	for n := range 256 {
		w.spawn(pick(full(n), api.Set(n%sets)), api.ID(min(n-1, n%3%2)))
	}
	w.same()
	w.next()
	w.despawn(0)
	w.same()
	w.next()
	w.despawn(1)
	w.same()
	w.spawn(full(1), 4)
	w.spawn(full(2), 255)
	w.same()
}

// P11.1: a name that doesn't live is ErrNone of each call, ahead of ErrArg and ErrCycle, and false; nothing changes.
func TestStrangers(t *testing.T) {
	w := grown(t, 6, -1, 0, 1, 1)
	w.despawn(1)
	w.despawn(2)
	w.spawn(full(30), 3)
	w.next()
	for _, id := range w.strangers() {
		w.despawn(id)
		w.loosen(id)
		w.adopt(id, id)
		for _, other := range w.ids() {
			w.adopt(id, other)
			w.adopt(other, id)
		}
		w.adopt(id, -1)
		w.adopt(-1, id)
		w.put(id, full(1), 0, 1, 2, 3, 4)
		w.cut(id, 0, 1)
		for _, p := range wrongParts() {
			if e := w.s.Put(id, p, 0); e != api.ErrNone {
				t.Errorf("Put(%d): %d", id, e)
			}
		}
		for _, kind := range wrongKinds() {
			if e := w.s.Put(id, full(1), kind); e != api.ErrNone {
				t.Errorf("Put(%d, _, %d): %d", id, kind, e)
			}
			if e := w.s.Cut(id, kind); e != api.ErrNone {
				t.Errorf("Cut(%d, %d): %d", id, kind, e)
			}
		}
	}
	w.same()
}

// P11.1: a parent below 0, that is none when one comes, is nobody who adopts.
func TestAdoptBelowZero(t *testing.T) {
	w := grown(t, 3, -1, 0)
	for _, parent := range []api.ID{-1, -2, -256, math.MinInt} {
		if e := w.adopt(1, parent); e != api.ErrNone {
			t.Errorf("Adopt(1, %d): %d", parent, e)
		}
	}
	w.same()
}

// P11.1: a kind that is none, that p hasn't, or a p that may not be, is ErrArg of Put and Cut, and nothing changes.
func TestPutCutWrong(t *testing.T) {
	w := grown(t, 5, -1, 0, 1, 1)
	for id := range api.ID(4) {
		for _, kind := range wrongKinds() {
			for _, l := range [][]api.Kind{{kind}, {0, kind}, {kind, 4}} {
				if e := w.s.Put(id, full(5), l...); e != api.ErrArg {
					t.Errorf("Put(%d, %v): %d", id, l, e)
				}
				if e := w.s.Cut(id, l...); e != api.ErrArg {
					t.Errorf("Cut(%d, %v): %d", id, l, e)
				}
			}
		}
		for kind := range api.Kind(5) {
			for _, l := range [][]api.Kind{{kind}, {0, 1, 2, 3, 4}} {
				if e := w.s.Put(id, pick(full(6), 31-1<<kind), l...); e != api.ErrArg {
					t.Errorf("Put(%d, %v): %d", id, l, e)
				}
			}
		}
		for _, p := range wrongParts() {
			if e := w.s.Put(id, p); e != api.ErrArg {
				t.Errorf("Put(%d, %v): %d", id, p, e)
			}
		}
	}
	w.same()
}

// P11.1: Put and Cut of no kinds, and of what is so already, let the entity change, as does an adoption by the same parent; Free of who is free doesn't.
func TestNothingNew(t *testing.T) {
	for s := range api.Set(sets) {
		w := made(t, 3)
		w.spawn(pick(full(1), s), -1)
		w.spawn(pick(full(2), s), 0)
		for _, do := range []func(){
			func() { w.put(0, full(9)) },
			func() { w.put(1, full(2), listed(s)...) },
			func() { w.cut(1) },
			func() { w.cut(0, listed(31-s)...) },
			func() { w.adopt(1, 0) },
			func() { w.loosen(0) },
		} {
			w.next()
			do()
			w.same()
		}
	}
}

// P11.1: several changes of one entity at the same tick are one; behind Next they are told anew, and since that tick alone.
func TestSameTick(t *testing.T) {
	w := grown(t, 4, -1, 0, 0)
	changes := []func(){
		func() { w.adopt(2, 1) },
		func() { w.loosen(2) },
		func() { w.put(2, full(4), 0) },
		func() { w.adopt(2, 0) },
		func() { w.cut(2, 0, 4) },
		func() { w.loosen(1) },
	}
	for _, apart := range []bool{false, true} {
		for _, first := range changes {
			for _, second := range changes {
				w.next()
				first()
				w.same()
				if apart {
					w.next()
				}
				second()
				w.same()
			}
		}
	}
}

// P11.1: who comes and goes at one tick went, and didn't change; its children changed, and who went at the same tick didn't.
func TestComeAndGo(t *testing.T) {
	w := grown(t, 6, -1)
	top, _ := w.spawn(full(1), 0)
	kid, _ := w.spawn(full(2), top)
	lost, _ := w.spawn(full(3), top)
	w.next()
	w.despawn(lost)
	id, _ := w.spawn(full(4), top)
	w.despawn(id)
	w.despawn(top)
	w.same()
	if l := w.s.Changed(2); !slices.Equal(l, []api.ID{kid}) {
		t.Errorf("Changed(2): %v", l)
	}
	if l := w.s.Gone(2); !slices.Equal(l, []api.ID{top, lost, id}) {
		t.Errorf("Gone(2): %v", l)
	}
}

// P11.1: Next without an end adds 1 each time, lets nobody change, and leaves all parents.
func TestNext(t *testing.T) {
	w := grown(t, 3, -1, 0, 1)
	for range 1000 {
		w.next()
	}
	w.same()
	if n := w.s.Tick(); n != 1002 {
		t.Errorf("Tick: %d", n)
	}
}

// some is a name that lives, if one does, and now and then one that doesn't.
func (w *world) some(next func(int) int) api.ID {
	l := w.ids()
	if len(l) == 0 || next(8) == 0 {
		l = w.strangers()
	}
	return l[next(len(l))]
}

// step does one of the calls, at names that may live or not.
func (w *world) step(next func(int) int, n, spawns int) {
	w.t.Helper()
	id, other, kinds := w.some(next), w.some(next), api.Set(next(sets))
	switch kind := next(12); {
	case kind < spawns && next(3) == 0:
		w.spawn(pick(full(n), kinds), -1)
	case kind < spawns:
		w.spawn(pick(full(n), kinds), other)
	case kind < 6:
		w.adopt(id, other)
	case kind == 6:
		w.loosen(id)
	case kind == 7:
		w.despawn(id)
	case kind == 8:
		w.put(id, full(n), listed(kinds)...)
	case kind == 9:
		w.cut(id, listed(kinds)...)
	default:
		w.next()
	}
}

// P11.1: all calls in many orders, in small scenes and great ones, each of them held against what is kept by hand.
func TestManyOrders(t *testing.T) {
	next := draw()
	for _, room := range []int{1, 2, 3, 5, 9, 40} {
		for spawns := 1; spawns <= 4; spawns++ {
			w := made(t, room)
			for n := range 250 {
				w.step(next, n, spawns)
				w.same()
			}
		}
	}
}

// P11.1: the same in a scene of all indexes, that is filled first.
func TestGreatScene(t *testing.T) {
	next := draw()
	w := made(t, maxRoom)
	for n := range maxRoom {
		w.spawn(pick(full(n), api.Set(n%sets)), api.ID(next(n+1)-1))
	}
	w.same()
	for n := range 300 {
		w.step(next, n, 3)
		if n%10 == 0 {
			w.same()
		}
	}
}

// note is what is written down of an entity.
type note struct {
	p api.Parts
	n flow.Node
}

// noting is who is there, with what parts, and as what node.
func noting(s *scene.Scene) map[api.ID]note {
	out := map[api.ID]note{}
	for _, id := range s.All() {
		p, _ := s.Get(id)
		n, _ := s.Node(id)
		out[id] = note{p, n}
	}
	return out
}

// compare holds what is told since a tick against what differs from what was written down at its end.
func compare(t *testing.T, s *scene.Scene, tick int, noted map[api.ID]note) {
	t.Helper()
	now, changed, gone := noting(s), s.Changed(tick), s.Gone(tick)
	for id, x := range now {
		if old, was := noted[id]; (!was || old != x) && !slices.Contains(changed, id) {
			t.Fatalf("Changed(%d): %v, without %d", tick, changed, id)
		}
	}
	for id := range noted {
		if _, is := now[id]; !is && !slices.Contains(gone, id) {
			t.Fatalf("Gone(%d): %v, without %d", tick, gone, id)
		}
	}
}

// noRing asks the scene alone whether all parents live, and nobody is above oneself; a node's parent is that of its entity.
func noRing(t *testing.T, s *scene.Scene) {
	t.Helper()
	all := s.All()
	for _, id := range all {
		n, _ := s.Node(id)
		if parent, ok := s.Parent(id); ok && n.Parent != parent || !ok && n.Parent != -1 {
			t.Fatalf("Node(%d): %v, Parent: %d", id, n, parent)
		}
		up, ok := s.Parent(id)
		for range all {
			if !ok {
				break
			}
			if up == id || !slices.Contains(all, up) {
				t.Fatalf("%d is above %d, of %v", up, id, all)
			}
			up, ok = s.Parent(up)
		}
		if ok {
			t.Fatalf("no end above %d", id)
		}
	}
}

// P11.2: all entities' parts and nodes are written down at the end of each tick; whoever has others later, or came, changed since; all parents live, in no ring.
func TestAllChangesAreTold(t *testing.T) {
	next := draw()
	for _, room := range []int{1, 2, 3, 12, 60} {
		w, noted := made(t, room), map[int]map[api.ID]note{0: nil}
		for n := range 600 {
			// Each tick's is written down anew till the tick moves on.
			noted[w.tick] = noting(w.s)
			w.step(next, n, 3)
			noRing(t, w.s)
			if n%20 > 0 {
				continue
			}
			for tick, then := range noted {
				if tick < w.tick {
					compare(t, w.s, tick, then)
				}
			}
		}
	}
}

// P11.2: each kind of change, alone, at a tick of its own, is told since each tick ahead of it, and no later, and of those alone whom it changed.
func TestEachChangeIsTold(t *testing.T) {
	for n, x := range []struct {
		change func(w *world)
		want   []api.ID
	}{
		{func(w *world) { w.put(1, full(77), 0) }, []api.ID{1}},
		{func(w *world) { w.put(1, full(77), 4) }, []api.ID{1}},
		{func(w *world) { w.put(1, full(77), 3) }, []api.ID{1}},
		{func(w *world) { w.cut(1, 0) }, []api.ID{1}},
		{func(w *world) { w.cut(0, 4) }, []api.ID{0}},
		{func(w *world) { w.adopt(3, 0) }, []api.ID{3}},
		{func(w *world) { w.adopt(2, 0) }, []api.ID{2}},
		{func(w *world) { w.adopt(2, 1) }, []api.ID{2}},
		{func(w *world) { w.loosen(1) }, []api.ID{1}},
		{func(w *world) { w.loosen(3) }, nil},
		{func(w *world) { w.despawn(0) }, []api.ID{1}},
		{func(w *world) { w.despawn(1) }, []api.ID{2}},
		{func(w *world) { w.despawn(2) }, nil},
		{func(w *world) { w.spawn(full(4), 2) }, []api.ID{4}},
		{func(w *world) { w.spawn(full(4), -1) }, []api.ID{4}},
		{func(w *world) { w.adopt(0, 2) }, nil},
		{func(w *world) { w.adopt(3, 3) }, nil},
	} {
		w := grown(t, 5, -1, 0, 1, -1)
		w.next()
		then := noting(w.s)
		w.next()
		x.change(w)
		compare(t, w.s, 3, then)
		for _, since := range []int{2, 3} {
			if l := w.s.Changed(since); !slices.Equal(l, x.want) {
				t.Errorf("change %d: Changed(%d): %v, wanted %v", n, since, l, x.want)
			}
		}
		if l := w.s.Changed(4); len(l) != 0 {
			t.Errorf("change %d: Changed(4): %v", n, l)
		}
		w.same()
		noRing(t, w.s)
	}
}

// P11.1, P1: on a nil scene ErrArg, nothing, false, 0.
func TestNil(t *testing.T) {
	var s *scene.Scene
	for _, id := range append(farNames(), 0, 1, 256) {
		for _, p := range append(wrongParts(), api.Parts{}, full(1)) {
			if got, e := s.Spawn(p, id); got != 0 || e != api.ErrArg || s.Put(id, p) != api.ErrArg || s.Put(id, p, 0) != api.ErrArg {
				t.Errorf("Spawn(_, %d): %d %d", id, got, e)
			}
		}
		for _, kind := range wrongKinds() {
			if s.Put(id, full(1), kind) != api.ErrArg || s.Cut(id, kind) != api.ErrArg {
				t.Errorf("Cut(%d, %d): %d", id, kind, s.Cut(id, kind))
			}
		}
		if s.Despawn(id) != api.ErrArg || s.Cut(id) != api.ErrArg || s.Cut(id, 0) != api.ErrArg || s.Free(id) != api.ErrArg {
			t.Errorf("Despawn(%d): %d", id, s.Despawn(id))
		}
		for _, other := range []api.ID{-1, 0, 1, id} {
			if s.Adopt(id, other) != api.ErrArg || s.Adopt(other, id) != api.ErrArg {
				t.Errorf("Adopt(%d, %d): %d", id, other, s.Adopt(id, other))
			}
		}
		if p, ok := s.Get(id); p != (api.Parts{}) || ok {
			t.Errorf("Get(%d): %v %t", id, p, ok)
		}
		if parent, ok := s.Parent(id); parent != 0 || ok {
			t.Errorf("Parent(%d): %d %t", id, parent, ok)
		}
		if n, ok := s.Node(id); n != (flow.Node{}) || ok {
			t.Errorf("Node(%d): %v %t", id, n, ok)
		}
	}
	for _, since := range farTicks() {
		if len(s.Changed(since)) != 0 || len(s.Gone(since)) != 0 {
			t.Errorf("Changed(%d): %v", since, s.Changed(since))
		}
	}
	if s.Tick() != 0 || s.Next() != 0 || s.Next() != 0 || s.Tick() != 0 || len(s.All()) != 0 {
		t.Errorf("Tick: %d", s.Tick())
	}
}

// P2 and the rule of new memory: what is written into an answer, or into an argument behind a call, is not seen by a later call.
func TestAnswersAreNew(t *testing.T) {
	w := grown(t, 7, -1, 0, 0, 0, 1)
	w.despawn(1)
	kinds := []api.Kind{3, 4, 0}
	w.put(2, full(4), kinds...)
	w.cut(3, kinds[:2]...)
	if !slices.Equal(kinds, []api.Kind{3, 4, 0}) {
		t.Errorf("kinds: %v", kinds)
	}
	kinds[0] = 1
	for _, ask := range []func() []api.ID{
		w.s.All,
		func() []api.ID { return w.s.Changed(0) },
		func() []api.ID { return w.s.Changed(1) },
		func() []api.ID { return w.s.Gone(0) },
	} {
		first, second := ask(), ask()
		want := slices.Clone(second)
		for n := range first {
			first[n] = 99
		}
		// Behind the length there may be room, which nobody else may look at.
		_ = append(first, 98)
		if !slices.Equal(second, want) {
			t.Errorf("kept: %v, wanted %v", second, want)
		}
		w.same()
	}
	w.despawn(0)
	w.same()
}

// P2: two scenes have nothing in common.
func TestTwoScenes(t *testing.T) {
	v, w := grown(t, 4, -1, 0, 1), grown(t, 4, 1, -1)
	v.next()
	v.despawn(1)
	w.put(1, full(40), 0)
	v.adopt(2, 0)
	w.spawn(edge(greatest), 0)
	w.loosen(0)
	v.spawn(edge(least), 2)
	w.cut(0, 3)
	v.same()
	w.same()
}
