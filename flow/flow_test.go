package flow_test

import (
	"math"
	"slices"
	"testing"

	"gesso/affine"
	"gesso/api"
	"gesso/flow"
)

// stage is a flow, and the same by the document's words: its nodes, who is dirty of itself, and what the last run made.
type stage struct {
	t      *testing.T
	f      *flow.Flow
	nodes  map[api.ID]flow.Node
	all    bool // behind New, and a run with an error
	marked map[api.ID]bool
	states map[api.ID]flow.State
	steps  int
	names  []api.ID // all that are asked for, rising
}

// empty is a flow without nodes, and the same by hand.
func empty(t *testing.T, names ...api.ID) *stage {
	t.Helper()
	f := flow.New()
	if f == nil {
		t.Fatal("New: nil")
	}
	names = rising(append([]api.ID{math.MinInt, -1, 0, 77, math.MaxInt}, names...)...)
	return &stage{t: t, f: f, nodes: map[api.ID]flow.Node{}, all: true, marked: map[api.ID]bool{}, states: map[api.ID]flow.State{}, names: names}
}

// laid is a flow with these nodes, put at once, that ran without an error.
func laid(t *testing.T, l ...flow.Node) *stage {
	t.Helper()
	s := empty(t)
	s.put(l...)
	if e := s.run(); e != api.OK {
		t.Fatalf("Run of %v: %d", l, e)
	}
	return s
}

// rising are names, each one once.
func rising(l ...api.ID) []api.ID {
	return slices.Compact(slices.Sorted(slices.Values(l)))
}

// hangs is whom a node of some nodes hangs on; false, if on nobody.
func hangs(nodes map[api.ID]flow.Node, id api.ID) (api.ID, bool) {
	n, ok := nodes[id]
	if !ok || n.Parent < 0 {
		return 0, false
	}
	_, ok = nodes[n.Parent]
	return n.Parent, ok
}

// ringed tells whether one comes to no end when one goes from a node to whom it hangs on.
func ringed(nodes map[api.ID]flow.Node) bool {
	for id := range nodes {
		ok := true
		for range nodes {
			if id, ok = hangs(nodes, id); !ok {
				break
			}
		}
		if ok {
			return true
		}
	}
	return false
}

// depth is a node's.
func (s *stage) depth(id api.ID) int {
	if up, ok := hangs(s.nodes, id); ok {
		return s.depth(up) + 1
	}
	return 1
}

// fate is a node's state, whether it has one, and the error if it fails.
func (s *stage) fate(id api.ID) (flow.State, bool, api.Errno) {
	n := s.nodes[id]
	up, ok := hangs(s.nodes, id)
	if !ok {
		return flow.State{World: n.Place, Shown: !n.Hidden}, true, api.OK
	}
	above, ok, _ := s.fate(up)
	if !ok {
		return flow.State{}, false, api.OK
	}
	if s.depth(id) > 16 {
		return flow.State{}, false, api.ErrDeep
	}
	world, e := affine.Mul(above.World, n.Place)
	if e != api.OK {
		return flow.State{}, false, e
	}
	return flow.State{World: world, Shown: above.Shown && !n.Hidden}, true, api.OK
}

// failure is the error of the least name that fails, OK if none does.
func (s *stage) failure() api.Errno {
	for _, id := range s.known() {
		if _, _, e := s.fate(id); e != api.OK {
			return e
		}
	}
	return api.OK
}

// known are the names of all nodes, rising.
func (s *stage) known() (l []api.ID) {
	for id := range s.nodes {
		l = append(l, id)
	}
	slices.Sort(l)
	return l
}

// dirty tells whether a node is.
func (s *stage) dirty(id api.ID) bool {
	if s.all || s.marked[id] {
		return true
	}
	up, ok := hangs(s.nodes, id)
	return ok && s.dirty(up)
}

// behind are a node, and behind it those that hang on it, rising, each likewise with its own behind it.
func (s *stage) behind(id api.ID) []api.ID {
	l := []api.ID{id}
	for _, child := range s.known() {
		if up, ok := hangs(s.nodes, child); ok && up == id {
			l = append(l, s.behind(child)...)
		}
	}
	return l
}

// due are those that a run touches, in order.
func (s *stage) due() (l []api.ID) {
	for _, id := range s.known() {
		up, ok := hangs(s.nodes, id)
		if s.dirty(id) && !(ok && s.dirty(up)) {
			l = append(l, s.behind(id)...)
		}
	}
	return l
}

// verdict is what the words say of nodes that are put, and what nodes there are then.
func (s *stage) verdict(l []flow.Node) (map[api.ID]flow.Node, api.Errno) {
	nodes := map[api.ID]flow.Node{}
	for id, n := range s.nodes {
		nodes[id] = n
	}
	for _, n := range l {
		if n.ID < 0 {
			return nil, api.ErrArg
		}
		for _, x := range n.Place {
			if x < api.MinNum || x > api.MaxNum {
				return nil, api.ErrArg
			}
		}
		nodes[n.ID] = n
	}
	if ringed(nodes) {
		return nil, api.ErrCycle
	}
	return nodes, api.OK
}

// put puts nodes in both.
func (s *stage) put(l ...flow.Node) api.Errno {
	s.t.Helper()
	nodes, want := s.verdict(l)
	handed := slices.Clone(l)
	if e := s.f.Put(handed...); e != want {
		s.t.Fatalf("Put(%v): %d, wanted %d", l, e, want)
	}
	if !slices.Equal(handed, l) {
		s.t.Fatalf("Put(%v) wrote into them: %v", l, handed)
	}
	if want == api.OK {
		s.nodes = nodes
		for _, n := range l {
			s.marked[n.ID] = true
		}
	}
	s.same()
	return want
}

// drop drops names in both.
func (s *stage) drop(l ...api.ID) int {
	s.t.Helper()
	had := len(s.nodes)
	for _, id := range l {
		for child := range s.nodes {
			if up, ok := hangs(s.nodes, child); ok && up == id {
				s.marked[child] = true
			}
		}
		delete(s.nodes, id)
		delete(s.marked, id)
	}
	handed := slices.Clone(l)
	n := s.f.Drop(handed...)
	if n != had-len(s.nodes) {
		s.t.Fatalf("Drop(%v): %d, wanted %d", l, n, had-len(s.nodes))
	}
	if !slices.Equal(handed, l) {
		s.t.Fatalf("Drop(%v) wrote into them: %v", l, handed)
	}
	s.same()
	return n
}

// run runs in both, and lets a new flow with the same nodes run.
func (s *stage) run() api.Errno {
	s.t.Helper()
	due, want := s.due(), s.failure()
	s.steps += len(due)
	if s.all = want != api.OK; s.all {
		s.states = map[api.ID]flow.State{}
	}
	for _, id := range due {
		if want == api.OK {
			s.states[id], _, _ = s.fate(id)
		}
	}
	s.marked = map[api.ID]bool{}
	l, e := s.f.Run()
	if !slices.Equal(l, due) || e != want {
		s.t.Fatalf("Run: %v %d, wanted %v %d", l, e, due, want)
	}
	s.same()
	s.anew(want)
	return e
}

// state is what is told of a name.
func (s *stage) state(id api.ID) (flow.State, bool) {
	if _, ok := s.nodes[id]; !ok || s.dirty(id) {
		return flow.State{}, false
	}
	return s.states[id], true
}

// same asks for all that is told, and holds it against what is kept by hand.
func (s *stage) same() {
	s.t.Helper()
	if l := s.f.Nodes(); !slices.Equal(l, s.known()) {
		s.t.Fatalf("Nodes: %v, wanted %v", l, s.known())
	}
	if n := s.f.Steps(); n != s.steps {
		s.t.Fatalf("Steps: %d, wanted %d", n, s.steps)
	}
	for _, id := range append(s.known(), s.names...) {
		want, had := s.state(id)
		if got, ok := s.f.State(id); got != want || ok != had {
			s.t.Fatalf("State(%d): %v %t, wanted %v %t", id, got, ok, want, had)
		}
	}
}

// anew puts the same nodes, one behind the other, each name from the greatest one down, and all at once, into new flows: their error and all states must be those of this one.
func (s *stage) anew(want api.Errno) {
	s.t.Helper()
	one, once := flow.New(), flow.New()
	var l []flow.Node
	for _, id := range slices.Backward(s.known()) {
		l = append(l, s.nodes[id])
		if e := one.Put(s.nodes[id]); e != api.OK {
			s.t.Fatalf("Put(%v): %d", s.nodes[id], e)
		}
	}
	if e := once.Put(l...); e != api.OK {
		s.t.Fatalf("Put(%v): %d", l, e)
	}
	for _, f := range []*flow.Flow{one, once} {
		if touched, e := f.Run(); e != want || !slices.Equal(rising(touched...), s.known()) {
			s.t.Fatalf("anew: Run: %v %d, wanted %v %d", touched, e, s.known(), want)
		}
		for _, id := range append(s.known(), s.names...) {
			state, ok := f.State(id)
			if got, had := s.f.State(id); got != state || had != ok {
				s.t.Fatalf("State(%d): %v %t, anew %v %t", id, got, had, state, ok)
			}
		}
	}
}

// touches lets a run touch just these, in this order, without an error.
func (s *stage) touches(want ...api.ID) {
	s.t.Helper()
	if l := s.due(); !slices.Equal(l, want) {
		s.t.Fatalf("the words say %v, wanted %v", l, want)
	}
	if e := s.run(); e != api.OK {
		s.t.Fatalf("Run: %d", e)
	}
}

// told lets the error of what was put be this one.
func told(t *testing.T, got, want api.Errno) {
	t.Helper()
	if got != want {
		t.Fatalf("%d, wanted %d", got, want)
	}
}

// shift moves along the first axis.
func shift(n int) api.Mat {
	return affine.Move(api.Vec{api.F(n) * api.One, 0, 0})
}

// wide scales all by so much.
func wide(n int) api.Mat {
	x := api.F(n) * api.One
	return affine.Scale(api.Vec{x, x, x})
}

// on is a node that moves by 1, on a parent.
func on(id, parent api.ID) flow.Node {
	return flow.Node{ID: id, Parent: parent, Place: shift(1)}
}

// at is a node with a place, on a parent.
func at(id, parent api.ID, place api.Mat) flow.Node {
	return flow.Node{ID: id, Parent: parent, Place: place}
}

// veiled is a node that is hidden.
func veiled(id, parent api.ID) flow.Node {
	return flow.Node{ID: id, Parent: parent, Place: shift(1), Hidden: true}
}

// chain are so many nodes, each on the one ahead of it, from a name on, the first one on nobody.
func chain(from api.ID, n int, place api.Mat) (l []flow.Node) {
	for k := range api.ID(n) {
		l = append(l, at(from+k, from+k-1, place))
	}
	l[0].Parent = -1
	return l
}

// draw gives numbers by a fixed rule.
func draw() func(below int) int {
	state := uint32(2463534242)
	return func(below int) int {
		state ^= state << 13
		state ^= state >> 17
		state ^= state << 5
		return int(state>>1) % below
	}
}

// P10.1: a new flow has no nodes, no states, no steps; a run touches nobody, and has no error.
func TestNew(t *testing.T) {
	s := empty(t, 1, 2, 3)
	s.same()
	for range 3 {
		s.touches()
	}
	if s.f.Steps() != 0 || len(s.f.Nodes()) != 0 {
		t.Errorf("Steps: %d, Nodes: %v", s.f.Steps(), s.f.Nodes())
	}
	s.put(on(3, -1))
	s.touches(3)
}

// P10.1: states that are written out: a place is behind the world of whom it hangs on, and who hangs on one that isn't shown isn't.
func TestWrittenOut(t *testing.T) {
	s := laid(t, at(4, -1, affine.Turn(2)), at(2, 4, affine.Move(api.Vec{2 * api.One, 3 * api.One, 7 * api.One})), at(9, 2, wide(2)), veiled(1, 9), on(6, 1), veiled(8, 99), on(3, 8))
	const one = api.One
	for _, x := range []struct {
		id    api.ID
		world api.Mat
		shown bool
	}{
		{4, api.Mat{0, -one, 0, 0, one, 0, 0, 0, 0, 0, one, 0}, true},
		{2, api.Mat{0, -one, 0, -3 * one, one, 0, 0, 2 * one, 0, 0, one, 7 * one}, true},
		{9, api.Mat{0, -2 * one, 0, -3 * one, 2 * one, 0, 0, 2 * one, 0, 0, 2 * one, 7 * one}, true},
		{1, api.Mat{0, -2 * one, 0, -3 * one, 2 * one, 0, 0, 4 * one, 0, 0, 2 * one, 7 * one}, false},
		{6, api.Mat{0, -2 * one, 0, -3 * one, 2 * one, 0, 0, 6 * one, 0, 0, 2 * one, 7 * one}, false},
		{8, shift(1), false},
		{3, shift(2), false},
	} {
		if got, ok := s.f.State(x.id); !ok || got.World != x.world || got.Shown != x.shown {
			t.Errorf("State(%d): %v %t", x.id, got, ok)
		}
	}
	if n := s.f.Steps(); n != 7 {
		t.Errorf("Steps: %d", n)
	}
	if l := s.f.Nodes(); !slices.Equal(l, []api.ID{1, 2, 3, 4, 6, 8, 9}) {
		t.Errorf("Nodes: %v", l)
	}
}

// P10.1: those that are touched stand under the dirty ones: of these, above which none is, the least name first, behind each one its own.
func TestOrder(t *testing.T) {
	s := laid(t, on(10, -1), on(3, 10), on(12, 10), on(20, 3), on(1, 3), on(2, 12), on(4, 50), on(30, 4), on(5, 30))
	s.put(on(10, -1))
	s.touches(10, 3, 1, 20, 12, 2)
	s.put(on(12, 10), on(3, 10))
	s.touches(3, 1, 20, 12, 2)
	s.put(on(2, 12), on(20, 3))
	s.put(on(1, 3), on(12, 10))
	s.touches(1, 12, 2, 20)
	s.put(on(5, 30), on(10, -1), on(4, 50), on(20, 3))
	s.touches(4, 30, 5, 10, 3, 1, 20, 12, 2)
	s.put(on(50, -1))
	s.touches(50, 4, 30, 5)
	s.drop(10)
	s.touches(3, 1, 20, 12, 2)
	s.put(on(10, 5))
	s.put(on(7, 5))
	s.touches(7, 10, 3, 1, 20, 12, 2)
	if n := s.f.Steps(); n != 9+6+5+4+9+4+5+7 {
		t.Errorf("Steps: %d", n)
	}
}

// P10.1: the example of the whole: of nodes 3 on 1, 2 on 3, 5 on 2 a run touches 1, 3, 2, 5, if 1 is put.
func TestExample(t *testing.T) {
	s := laid(t, on(3, 1), on(2, 3), on(5, 2))
	s.put(on(1, -1))
	s.touches(1, 3, 2, 5)
}

// P10.1, P10.2: a node hangs on its parent from when that comes, to when it goes, and again when it comes again.
func TestParentComesAndGoes(t *testing.T) {
	s := laid(t, on(3, 1), on(2, 3), on(5, 2), veiled(4, 1))
	for _, parent := range []flow.Node{on(1, -1), at(1, -1, wide(3)), veiled(1, 77), on(1, 1<<40)} {
		s.put(parent)
		s.touches(1, 3, 2, 5, 4)
		s.drop(1)
		s.touches(3, 2, 5, 4)
		s.touches()
		// It comes, and goes, and comes, with no run between.
		s.put(parent)
		s.drop(1)
		s.put(parent)
		s.touches(1, 3, 2, 5, 4)
		s.drop(1)
		s.put(parent)
		s.touches(1, 3, 2, 5, 4)
		s.drop(1)
		s.put(parent)
		s.drop(1)
		s.touches(3, 2, 5, 4)
	}
	if got, ok := s.f.State(5); !ok || got.World != shift(3) || !got.Shown {
		t.Errorf("State(5): %v %t", got, ok)
	}
	s.put(at(1, -1, wide(2)))
	s.touches(1, 3, 2, 5, 4)
	if got, ok := s.f.State(3); !ok || got.World[0] != 2*api.One || got.World[3] != 2*api.One {
		t.Errorf("State(3): %v %t", got, ok)
	}
}

// P10.1, P10.2: a node instead of one of its name: with another place, hidden or not, another parent, or none; or the same again.
func TestInstead(t *testing.T) {
	s := laid(t, on(1, -1), on(2, 1), on(3, 2), on(4, 3), on(5, 1), at(6, -1, wide(2)))
	for _, n := range []flow.Node{on(2, 1), at(2, 1, wide(5)), veiled(2, 1), on(2, 1), on(2, 5), on(2, 6), veiled(2, 6), on(2, 77), on(2, -1), on(2, math.MinInt), on(2, 6), on(2, 1)} {
		s.put(n)
		s.touches(2, 3, 4)
		s.touches()
	}
	// Who had the others hang on it hangs on one of them, when that one is freed of it.
	s.put(on(4, -1))
	s.put(on(2, 4))
	s.touches(4, 2, 3)
	s.put(at(3, 6, wide(2)))
	s.put(on(6, 2))
	s.touches(6, 3)
	if got, ok := s.f.State(3); !ok || got.World[3] != 3*api.One || got.World[0] != 2*api.One {
		t.Errorf("State(3): %v %t", got, ok)
	}
}

// P10.1: of several nodes at once the last one of a name stays; the others ahead of it aren't there, as a parent neither.
func TestOneNameTwice(t *testing.T) {
	s := laid(t, on(1, -1), on(2, 1))
	s.put(on(3, 2), veiled(3, 1), at(3, 1, wide(2)))
	s.touches(3)
	if got, ok := s.f.State(3); !ok || !got.Shown || got.World[0] != 2*api.One || got.World[3] != api.One {
		t.Errorf("State(3): %v %t", got, ok)
	}
	// A ring that stands among those at once, and is none when all are put.
	told(t, s.put(on(5, 5), on(5, -1)), api.OK)
	told(t, s.put(on(1, 3), on(1, 2), on(1, 1), on(1, -1)), api.OK)
	s.touches(1, 2, 3, 5)
	told(t, s.put(on(5, -1), on(5, 5)), api.ErrCycle)
	told(t, s.put(on(1, -1), on(1, 2)), api.ErrCycle)
	s.touches()
	told(t, s.put(on(5, 2), on(2, 77), on(5, 3), on(2, 1)), api.OK)
	s.touches(2, 5)
}

// P10.1: several nodes at once, in any order: children ahead of their parents, and nodes that change places.
func TestSeveralAtOnce(t *testing.T) {
	s := laid(t, on(5, 4), on(3, 2), on(4, 3), on(1, -1), on(2, 1))
	s.put(on(1, 5), on(2, -1))
	s.touches(2, 3, 4, 5, 1)
	// The chain turned round: each link alone would close a ring with those that are still there.
	s.put(on(2, 3), on(3, 4), on(4, 5), on(5, 1), on(1, -1))
	s.touches(1, 5, 4, 3, 2)
	s.put(on(5, 4), on(4, 3), on(3, 2), on(2, -1), veiled(1, 77))
	s.touches(1, 2, 3, 4, 5)
	// Two that hang on one another change places.
	s.put(on(2, 3), on(3, -1))
	s.touches(3, 2, 4, 5)
}

// P10.1: a ring that closes by a put, alone or with others, is ErrCycle, and nothing: neither a node nor who is dirty.
func TestRing(t *testing.T) {
	s := laid(t, on(1, -1), on(2, 1), on(3, 2), on(4, 3), on(6, 9))
	for _, l := range [][]flow.Node{
		{on(1, 1)},
		{on(1, 2)},
		{on(1, 4)},
		{on(2, 4)},
		{on(3, 3)},
		{on(7, 7)},
		{on(0, 0)},
		{on(9, 6)},
		{on(9, 8), on(8, 6)},
		{on(8, 6), on(9, 8)},
		{on(7, 8), on(8, 7)},
		{on(11, 12), on(12, 13), on(13, 11), on(14, -1)},
		{at(4, 3, wide(2)), veiled(2, 1), on(1, 3)},
		{on(4, -1), on(5, -1), on(1, 3), on(6, 5)},
		{on(3, 77), on(2, 4), on(1, 2), on(4, 1)},
		{on(5, 4), on(1, 5), on(2, 1), on(2, 1)},
		{on(math.MaxInt, math.MaxInt)},
	} {
		told(t, s.put(l...), api.ErrCycle)
		s.touches()
	}
	// What was dirty stays so, and no more than that.
	s.put(on(3, 2))
	told(t, s.put(on(1, 4), veiled(6, 9)), api.ErrCycle)
	s.touches(3, 4)
	if l := s.f.Nodes(); !slices.Equal(l, []api.ID{1, 2, 3, 4, 6}) {
		t.Errorf("Nodes: %v", l)
	}
}

// P10.1: what was a ring is none any more, when a link of it is gone: by a put, ahead or at once, or by a drop.
func TestRingNoMore(t *testing.T) {
	s := laid(t, on(1, -1), on(2, 1), on(3, 2))
	told(t, s.put(on(1, 3)), api.ErrCycle)
	told(t, s.put(on(1, 3), on(3, -1)), api.OK)
	s.touches(3, 1, 2)
	told(t, s.put(on(3, 2)), api.ErrCycle)
	s.put(on(2, 77))
	told(t, s.put(on(3, 2)), api.OK)
	s.touches(2, 3, 1)
	told(t, s.put(on(2, 1)), api.ErrCycle)
	s.drop(3)
	told(t, s.put(on(2, 1)), api.OK)
	s.touches(1, 2)
	// The one that went still would close it, if it came as it was, as 1 waits for it.
	told(t, s.put(on(3, 2)), api.ErrCycle)
	told(t, s.put(on(3, 1)), api.ErrCycle)
	told(t, s.put(on(3, 77)), api.OK)
	s.touches(3, 1, 2)
}

// P10.1: a depth of 16 may be, one of 17 fails; who hangs on that doesn't.
func TestDepth(t *testing.T) {
	for _, from := range []api.ID{0, 5, 1 << 40} {
		s := empty(t)
		s.put(chain(from, 16, shift(1))...)
		told(t, s.run(), api.OK)
		if got, ok := s.f.State(from + 15); !ok || got.World != shift(16) {
			t.Fatalf("State: %v %t", got, ok)
		}
		for k := range api.ID(3) {
			s.put(on(from+16+k, from+15+k))
			told(t, s.run(), api.ErrDeep)
			if got, ok := s.f.State(from); ok || got != (flow.State{}) {
				t.Fatalf("State: %v %t", got, ok)
			}
		}
		s.drop(from + 7)
		told(t, s.run(), api.OK)
		s.put(on(from+7, from+6))
		told(t, s.run(), api.ErrDeep)
		s.put(on(from+16, -1))
		told(t, s.run(), api.OK)
		// The whole chain comes a step deeper, as the first one gets a parent that is there.
		s.put(on(from+50, -1))
		s.put(on(from, from+50))
		told(t, s.run(), api.ErrDeep)
		s.drop(from + 50)
		told(t, s.run(), api.OK)
	}
}

// P10.1: a parent that isn't there counts nothing of the depth.
func TestDepthUnderNobody(t *testing.T) {
	s := empty(t)
	l := chain(1, 16, shift(1))
	l[0].Parent = 99
	s.put(l...)
	told(t, s.run(), api.OK)
	s.put(on(99, 98))
	told(t, s.run(), api.ErrDeep)
	s.drop(99)
	told(t, s.run(), api.OK)
}

// P10.1: a depth that grows while the node itself stays: who is put far above it makes it fail, and fails not itself.
func TestDepthFromAbove(t *testing.T) {
	s := laid(t, slices.Concat(chain(100, 10, shift(1)), chain(200, 7, shift(1)))...)
	s.put(on(200, 108))
	told(t, s.run(), api.OK)
	s.put(on(200, 109))
	told(t, s.run(), api.ErrDeep)
	s.drop(206)
	told(t, s.run(), api.OK)
	s.put(on(206, 205))
	told(t, s.run(), api.ErrDeep)
	s.put(on(200, 107))
	told(t, s.run(), api.OK)
}

// P10.1: a product that runs over fails: by a number, and by a sum alone; up to the greatest and the least number it doesn't.
func TestOver(t *testing.T) {
	var most, least, half api.Mat
	most[0], most[3], most[5], most[10] = api.One, api.MaxNum, api.One, api.One
	least[0], least[3], least[5], least[10] = api.One, api.MinNum, api.One, api.One
	half[0], half[5], half[10] = api.One/2, api.One, api.One
	part := func(x api.F) api.Mat { return affine.Move(api.Vec{x, 0, 0}) }
	for _, x := range []struct {
		above, place api.Mat
		want         api.Errno
	}{
		{wide(200), wide(200), api.ErrOver},
		{wide(200), wide(100), api.OK},
		{wide(-200), wide(200), api.ErrOver},
		{wide(-128), wide(256), api.OK},
		{wide(128), wide(256), api.ErrOver},
		{most, part(1), api.ErrOver},
		{most, part(-1), api.OK},
		{most, part(0), api.OK},
		{least, part(-1), api.ErrOver},
		{least, part(1), api.OK},
		{least, most, api.OK},
		{most, most, api.ErrOver},
		{half, most, api.OK},
		{api.Mat{}, most, api.OK},
	} {
		s := empty(t)
		s.put(at(2, -1, x.above), at(1, 2, x.place))
		told(t, s.run(), x.want)
		s.put(at(3, 1, affine.Same()))
		told(t, s.run(), x.want)
		s.put(at(1, -1, x.place))
		told(t, s.run(), api.OK)
	}
}

// P10.1: a node alone never fails, whatever its place is: nothing is multiplied.
func TestAlone(t *testing.T) {
	var most, least api.Mat
	for k := range most {
		most[k], least[k] = api.MaxNum, api.MinNum
	}
	s := laid(t, at(1, -1, most), at(2, -7, least), at(3, 50, most), flow.Node{ID: 4, Parent: -1}, flow.Node{ID: 0, Parent: 50, Hidden: true, Place: least})
	for id, want := range map[api.ID]flow.State{1: {World: most, Shown: true}, 2: {World: least, Shown: true}, 3: {World: most, Shown: true}, 4: {Shown: true}, 0: {World: least}} {
		if got, ok := s.f.State(id); !ok || got != want {
			t.Errorf("State(%d): %v %t", id, got, ok)
		}
	}
	s.put(flow.Node{ID: 50, Parent: -1, Place: affine.Same()})
	s.run()
}

// P10.1: of one that fails in both ways ErrDeep is told, which is named first.
func TestDeepAheadOfOver(t *testing.T) {
	s := laid(t, chain(1, 16, shift(1))...)
	s.put(at(1, -1, wide(200)))
	told(t, s.run(), api.OK)
	s.put(at(17, 16, wide(200)))
	told(t, s.run(), api.ErrDeep)
	s.put(at(17, 15, wide(200)))
	told(t, s.run(), api.ErrOver)
}

// P10.1: of several that fail the one with the least name tells the error, wherever it stands, and whichever is touched first.
func TestLeastFails(t *testing.T) {
	for _, x := range []struct {
		deep, over api.ID
		want       api.Errno
	}{
		{1, 2, api.ErrDeep},
		{2, 1, api.ErrOver},
		{500, 2, api.ErrOver},
		{2, 500, api.ErrDeep},
		{400, 500, api.ErrDeep},
		{500, 400, api.ErrOver},
		{0, math.MaxInt, api.ErrDeep},
		{math.MaxInt, 0, api.ErrOver},
	} {
		// Of both trees each one is touched first once, as 300 and 100 stand at their tops.
		for _, roots := range [][2]api.ID{{100, 300}, {300, 100}} {
			s := empty(t)
			s.put(chain(roots[0], 16, shift(1))...)
			s.put(at(roots[1], -1, wide(200)))
			told(t, s.run(), api.OK)
			s.put(at(x.over, roots[1], wide(200)), on(x.deep, roots[0]+15))
			told(t, s.run(), x.want)
			told(t, s.run(), x.want)
			s.drop(x.over)
			told(t, s.run(), api.ErrDeep)
			s.put(at(x.over, roots[1], wide(200)))
			s.drop(x.deep)
			told(t, s.run(), api.ErrOver)
			s.drop(x.over)
			told(t, s.run(), api.OK)
		}
	}
}

// P10.1: who hangs on one that fails doesn't fail, though its name is less, it is too deep, and its product would run over; it is touched all the same.
func TestHangsOnOneThatFails(t *testing.T) {
	s := laid(t, chain(101, 15, shift(1))...)
	s.put(at(101, -1, wide(200)))
	s.put(at(300, 115, wide(200)), on(2, 300), on(1, 2), at(0, 1, wide(20000)))
	want := s.behind(101)
	if !slices.Equal(want[15:], []api.ID{300, 2, 1, 0}) {
		t.Fatalf("%v", want)
	}
	told(t, s.run(), api.ErrOver)
	// When 300 fails no more, 2 is too deep; 1 hangs on it, and 0 on that.
	s.put(on(300, 115))
	told(t, s.run(), api.ErrDeep)
	s.put(on(2, -1))
	told(t, s.run(), api.OK)
	s.put(at(2, -1, wide(20000)))
	told(t, s.run(), api.ErrOver)
	s.drop(0)
	told(t, s.run(), api.OK)
}

// P10.1: under one that fails nobody fails, however long the row that hangs on it is, and however large its places are.
func TestLongUnderOneThatFails(t *testing.T) {
	s := laid(t, at(100, -1, wide(200)), at(101, -1, wide(20000)))
	s.put(chain(0, 40, wide(200))...)
	told(t, s.run(), api.ErrOver)
	l := chain(0, 40, shift(1))
	l[0].Parent = 101
	l[0].Place = wide(200)
	s.put(l...)
	told(t, s.run(), api.ErrOver)
	s.put(on(101, 100), on(0, -1))
	told(t, s.run(), api.ErrDeep)
	// Now 102 fails, of the greatest name, and all of the row hang on it.
	s.put(at(101, -1, wide(200)), at(102, 101, wide(200)), on(0, 102))
	told(t, s.run(), api.ErrOver)
}

// P10.1: under one that fails nobody fails by what the run ahead of it made: 3 had a state, and 1 is put with a place that ran over on that.
func TestNothingOldUnderOneThatFails(t *testing.T) {
	for _, x := range []struct {
		place api.Mat
		want  api.Errno
	}{
		{wide(200), api.ErrDeep},
		{affine.Same(), api.ErrDeep},
	} {
		s := laid(t, slices.Concat(chain(100, 16, affine.Same()), []flow.Node{at(9, -1, wide(200)), at(3, 9, affine.Same()), at(1, 3, affine.Same())})...)
		s.put(at(9, 115, wide(200)), at(1, 3, x.place))
		told(t, s.run(), x.want)
		s.put(at(9, -1, wide(200)))
		want := api.OK
		if x.place != affine.Same() {
			want = api.ErrOver
		}
		told(t, s.run(), want)
	}
}

// P10.1, P10.2: behind a run with an error there are no states, all are dirty, and the next run touches all.
func TestBehindAnError(t *testing.T) {
	s := laid(t, on(1, -1), on(2, 1), at(5, -1, wide(200)), on(6, 5), veiled(9, 77))
	s.put(at(6, 5, wide(200)))
	if l := s.due(); !slices.Equal(l, []api.ID{6}) {
		t.Fatalf("due: %v", l)
	}
	told(t, s.run(), api.ErrOver)
	for _, id := range s.known() {
		if got, ok := s.f.State(id); ok || got != (flow.State{}) {
			t.Errorf("State(%d): %v %t", id, got, ok)
		}
	}
	told(t, s.run(), api.ErrOver)
	if l := s.due(); !slices.Equal(l, []api.ID{1, 2, 5, 6, 9}) {
		t.Fatalf("due: %v", l)
	}
	s.put(on(3, 2))
	told(t, s.put(on(3, 3)), api.ErrCycle)
	s.drop(9)
	told(t, s.run(), api.ErrOver)
	s.drop(6, 6)
	s.touches(1, 2, 3, 5)
	s.touches()
	if n := s.f.Steps(); n != 5+1+5+5+4 {
		t.Errorf("Steps: %d", n)
	}
	// All go behind an error: then nobody is left to be touched, and nobody fails.
	s.put(at(6, 5, wide(200)))
	told(t, s.run(), api.ErrOver)
	s.drop(s.known()...)
	s.touches()
	s.put(on(1, -1))
	s.touches(1)
}

// P10.1: behind a run with an error who comes and goes is dirty as all; only those that are there are touched.
func TestComesAndGoesBehindAnError(t *testing.T) {
	s := laid(t, at(5, -1, wide(200)), on(7, 6), on(6, 5))
	s.put(at(6, 5, wide(200)))
	told(t, s.run(), api.ErrOver)
	s.drop(6)
	s.touches(5, 7)
	s.put(at(6, 5, wide(200)))
	told(t, s.run(), api.ErrOver)
	s.drop(5)
	s.put(on(5, 80))
	s.put(on(1, 7))
	s.touches(5, 6, 7, 1)
}

// P10.3: a run with nothing dirty touches nobody; asking makes nobody dirty.
func TestNothingDirty(t *testing.T) {
	s := laid(t, on(3, 1), on(2, 3), on(5, 2), veiled(4, 99))
	for range 5 {
		s.same()
		s.touches()
	}
	told(t, s.put(), api.OK)
	told(t, s.put([]flow.Node{}...), api.OK)
	s.drop()
	s.drop(77, -1, 1, 99, math.MaxInt, math.MinInt)
	s.touches()
	if n := s.f.Steps(); n != 4 {
		t.Errorf("Steps: %d", n)
	}
}

// P10.1, P10.3: Drop of who has others hang on it, of a name twice, of several, and of names that nobody knows.
func TestDrop(t *testing.T) {
	l := []flow.Node{on(1, -1), on(2, 1), on(3, 2), on(4, 3), on(7, 2), on(8, 1), on(6, 99)}
	for _, x := range []struct {
		names   []api.ID
		count   int
		touched []api.ID
	}{
		{nil, 0, nil},
		{[]api.ID{2}, 1, []api.ID{3, 4, 7}},
		{[]api.ID{2, 2, 2}, 1, []api.ID{3, 4, 7}},
		{[]api.ID{1}, 1, []api.ID{2, 3, 4, 7, 8}},
		{[]api.ID{1, 2}, 2, []api.ID{3, 4, 7, 8}},
		{[]api.ID{2, 1}, 2, []api.ID{3, 4, 7, 8}},
		{[]api.ID{3, 1, 77, 3}, 2, []api.ID{2, 7, 4, 8}},
		{[]api.ID{4, 8, 6}, 3, nil},
		{[]api.ID{99, -1, 77, math.MaxInt, math.MinInt, 5, 0}, 0, nil},
		{[]api.ID{1, 2, 3, 4, 6, 7, 8}, 7, nil},
		{[]api.ID{8, 7, 6, 4, 3, 2, 1, 1}, 7, nil},
		{[]api.ID{3, 7}, 2, []api.ID{4}},
	} {
		s := laid(t, l...)
		if n := s.drop(x.names...); n != x.count {
			t.Fatalf("Drop(%v): %d, wanted %d", x.names, n, x.count)
		}
		if n := s.drop(x.names...); n != 0 {
			t.Fatalf("Drop(%v) again: %d", x.names, n)
		}
		due := s.due()
		if want := slices.Clone(x.touched); !slices.Equal(rising(due...), rising(want...)) {
			t.Fatalf("Drop(%v): %v, wanted %v", x.names, due, want)
		}
		told(t, s.run(), api.OK)
		s.touches()
		// As they were again, all at once: those that went are put, and who hangs on them is touched.
		for _, n := range l {
			if slices.Contains(x.names, n.ID) {
				s.put(n)
			}
		}
		told(t, s.run(), api.OK)
		if got, ok := s.f.State(4); !ok || got.World != shift(4) {
			t.Fatalf("State(4): %v %t", got, ok)
		}
	}
}

// P10.1: a node that goes has no state, and none when it comes again till a run.
func TestDropped(t *testing.T) {
	s := laid(t, on(1, -1), on(2, 1))
	s.drop(1)
	s.put(at(1, -1, wide(2)))
	if got, ok := s.f.State(1); ok || got != (flow.State{}) {
		t.Errorf("State(1): %v %t", got, ok)
	}
	s.touches(1, 2)
	s.drop(2)
	s.touches()
	s.put(on(2, 1))
	s.touches(2)
	s.drop(2)
	s.put(on(2, 1))
	s.drop(2)
	s.touches()
}

// P10.1: those that are dirty have no state ahead of the run; the others have theirs, as the last run made it.
func TestStatesOfDirty(t *testing.T) {
	s := laid(t, on(1, -1), on(2, 1), on(3, 2), on(4, 3), on(5, 1), on(6, -1), on(8, 7))
	asked := func(want ...api.ID) {
		t.Helper()
		var l []api.ID
		for id := range api.ID(10) {
			if _, ok := s.f.State(id); ok {
				l = append(l, id)
			}
		}
		if !slices.Equal(l, want) {
			t.Fatalf("states of %v, wanted %v", l, want)
		}
	}
	asked(1, 2, 3, 4, 5, 6, 8)
	s.put(on(3, 2))
	asked(1, 2, 5, 6, 8)
	s.put(on(7, 6))
	asked(1, 2, 5, 6)
	s.put(veiled(2, -1))
	asked(1, 5, 6)
	s.drop(7)
	asked(1, 5, 6)
	s.drop(1)
	asked(6)
	s.put(on(1, 6))
	asked(6)
	s.touches(1, 5, 2, 3, 4, 8)
}

// P10.1: a place that may not be, at each of its numbers, is ErrArg, and nothing, alone and among others.
func TestWrongPlace(t *testing.T) {
	s := laid(t, on(1, -1), on(2, 1), on(3, 2))
	for k := range 12 {
		for _, x := range []api.F{api.MaxNum + 1, api.MinNum - 1, math.MaxInt, math.MinInt, 1 << 32, -1 << 32} {
			place := shift(1)
			place[k] = x
			wrong := at(2, -1, place)
			told(t, s.put(wrong), api.ErrArg)
			told(t, s.put(on(5, 1), wrong), api.ErrArg)
			told(t, s.put(wrong, on(5, 1)), api.ErrArg)
			// One that another one of its name would take the place of, too.
			told(t, s.put(wrong, on(2, 1)), api.ErrArg)
			told(t, s.put(at(9, 50, place)), api.ErrArg)
		}
		for _, x := range []api.F{api.MaxNum, api.MinNum} {
			place := shift(1)
			place[k] = x
			told(t, s.put(at(7, -1, place)), api.OK)
		}
		s.touches(7)
	}
	s.drop(7)
	s.touches()
}

// P10.1: a name below 0 is ErrArg, and nothing; it comes ahead of ErrCycle.
func TestWrongName(t *testing.T) {
	s := laid(t, on(1, -1), on(2, 1))
	for _, id := range []api.ID{-1, -2, -256, -1 << 31, -1 << 32, math.MinInt + 1, math.MinInt} {
		told(t, s.put(on(id, 1)), api.ErrArg)
		told(t, s.put(on(id, id)), api.ErrArg)
		told(t, s.put(on(id, -1)), api.ErrArg)
		told(t, s.put(on(1, -1), on(id, 1)), api.ErrArg)
		told(t, s.put(on(3, 3), on(id, 1)), api.ErrArg)
		told(t, s.put(on(id, 1), on(1, 2)), api.ErrArg)
		s.names = rising(append(s.names, id)...)
		s.drop(id, id)
		s.touches()
	}
	place := shift(1)
	place[4] = math.MaxInt
	told(t, s.put(on(3, 3), at(4, -1, place)), api.ErrArg)
	told(t, s.put(at(1, 2, place)), api.ErrArg)
	s.touches()
}

// P10.1: a parent below 0 is none, whatever number it is; two that have the same one have nothing to do with one another.
func TestParentBelow(t *testing.T) {
	s := laid(t, on(1, 0), on(2, -1), on(3, -1), on(4, -2), on(5, math.MinInt), on(6, -1<<32))
	for id := api.ID(1); id < 7; id++ {
		if got, ok := s.f.State(id); !ok || got.World != shift(1) {
			t.Errorf("State(%d): %v %t", id, got, ok)
		}
	}
	s.put(on(0, -1))
	s.touches(0, 1)
	s.put(on(2, -5), on(1, -9))
	s.touches(1, 2)
	s.put(at(0, -1, wide(2)))
	s.touches(0)
	s.drop(0, -1, -5, -9)
	s.touches()
}

// P10.1: names far beyond are names as others: none of them is taken for another one.
func TestFarNames(t *testing.T) {
	far := []api.ID{0, 1, 2, 255, 256, 1<<24 - 1, 1 << 24, 1<<31 - 1, 1 << 31, 1 << 32, 1<<32 + 1, 1<<32 + 2, math.MaxInt - 1, math.MaxInt}
	s := empty(t, far...)
	for n, id := range far {
		up := api.ID(-1)
		if n > 0 {
			up = far[n-1]
		}
		s.put(on(id, up))
	}
	s.touches(far...)
	s.put(on(1<<32+1, 1<<32))
	s.touches(far[10:]...)
	told(t, s.put(on(0, math.MaxInt)), api.ErrCycle)
	s.drop(0, 1<<32)
	s.touches(slices.Concat(far[1:9], far[10:])...)
}

// P10.1: on a nil flow there are ErrArg, 0, nothing and false, whatever is asked.
func TestNil(t *testing.T) {
	var f *flow.Flow
	place := shift(1)
	place[0] = math.MaxInt
	if f.Put() != api.ErrArg || f.Put(on(1, -1)) != api.ErrArg || f.Put(on(1, 1)) != api.ErrArg || f.Put(at(-1, 5, place)) != api.ErrArg {
		t.Error("Put")
	}
	if f.Drop() != 0 || f.Drop(1) != 0 || f.Drop(-1, 3, 3) != 0 {
		t.Error("Drop")
	}
	if l, e := f.Run(); e != api.ErrArg || len(l) != 0 {
		t.Errorf("Run: %v %d", l, e)
	}
	for _, id := range []api.ID{math.MinInt, -1, 0, 1, math.MaxInt} {
		if got, ok := f.State(id); ok || got != (flow.State{}) {
			t.Errorf("State(%d): %v %t", id, got, ok)
		}
	}
	if l := f.Nodes(); len(l) != 0 || f.Steps() != 0 {
		t.Errorf("Nodes: %v, Steps: %d", l, f.Steps())
	}
}

// P10.1: what is handed in is not kept, nor written into, nor is what lies behind it.
func TestHandedIn(t *testing.T) {
	s := empty(t)
	had := []flow.Node{on(3, 1), on(2, 3), on(1, -1), on(2, 1), on(8, 8), at(9, 2, wide(2))}
	l := slices.Clone(had)
	if e := s.f.Put(l[:4]...); e != api.OK || !slices.Equal(l, had) {
		t.Fatalf("Put: %d %v", e, l)
	}
	if e := s.f.Put(l...); e != api.ErrCycle || !slices.Equal(l, had) {
		t.Fatalf("Put: %d %v", e, l)
	}
	for k := range l {
		l[k] = flow.Node{ID: 50, Parent: 51, Hidden: true}
	}
	s.nodes = map[api.ID]flow.Node{3: had[0], 1: had[2], 2: had[3]}
	told(t, s.run(), api.OK)
	names := []api.ID{3, 1, 3, 2, 2}
	s.f.Drop(names[:3]...)
	if !slices.Equal(names, []api.ID{3, 1, 3, 2, 2}) {
		t.Errorf("Drop: %v", names)
	}
	names[0], names[1] = 2, 2
	if l := s.f.Nodes(); !slices.Equal(l, []api.ID{2}) {
		t.Errorf("Nodes: %v", l)
	}
}

// P10.1: lists that are answered are new memory: who writes into them, or adds to them, changes nothing, and they stay as they were.
func TestNewMemory(t *testing.T) {
	s := laid(t, on(3, 1), on(2, 3), on(5, 2), on(1, -1))
	s.put(on(3, 1))
	touched, _ := s.f.Run()
	nodes := s.f.Nodes()
	s.marked, s.steps = map[api.ID]bool{}, s.steps+3
	s.put(on(7, 5), on(3, -1))
	s.drop(1)
	s.touches(3, 2, 5, 7)
	if !slices.Equal(touched, []api.ID{3, 2, 5}) || !slices.Equal(nodes, []api.ID{1, 2, 3, 5}) {
		t.Errorf("Run: %v, Nodes: %v", touched, nodes)
	}
	for _, l := range [][]api.ID{touched, nodes, s.f.Nodes()} {
		_ = append(l, 600, 601, 602)
		for k := range l {
			l[k] = 500
		}
		s.same()
		s.touches()
		s.put(on(3, -1))
		s.touches(3, 2, 5, 7)
	}
}

// P10.1 (P2): what one flow has, no other one has.
func TestSideBySide(t *testing.T) {
	one, other := empty(t, 1, 2, 3), empty(t, 1, 2, 3)
	next := draw()
	for range 200 {
		one.put(on(api.ID(next(4)), api.ID(next(5)-1)))
		other.same()
		other.put(on(api.ID(next(4)), api.ID(next(5)-1)))
		other.drop(api.ID(next(4)))
		one.same()
		one.run()
		other.same()
		other.run()
		one.same()
	}
}

// eachRow calls with each row of so many numbers, each from 0 to below.
func eachRow(count, below int, each func(row []int)) {
	row := make([]int, count)
	var choose func(at int)
	choose = func(at int) {
		if at == count {
			each(row)
			return
		}
		for row[at] = 0; row[at] < below; row[at]++ {
			choose(at + 1)
		}
	}
	choose(0)
}

// family are nodes of the names 0, 1 and so on, by the parents that a row tells: 0 is none, the others are names and one.
func family(row []int) (l []flow.Node) {
	for id, parent := range row {
		l = append(l, at(api.ID(id), api.ID(parent-1), shift(id+1)))
	}
	return l
}

// P10.1, P10.2, P10.3: from each flow of three nodes, whose parents may be there or not, to each other one, by a put of all, or of some of them.
func TestEachMove(t *testing.T) {
	var flows [][]flow.Node
	eachRow(3, 5, func(row []int) { flows = append(flows, family(row)) })
	flowsLaid, rings := 0, 0
	for _, from := range flows {
		start := empty(t)
		if _, e := start.verdict(from); e != api.OK {
			rings++
			told(t, start.put(from...), api.ErrCycle)
			start.touches()
			continue
		}
		flowsLaid++
		for _, to := range flows {
			for some := 1; some < 8; some++ {
				var l []flow.Node
				for k, n := range to {
					if some>>k&1 == 1 {
						l = append(l, n)
					}
				}
				s := laid(t, from...)
				s.put(l...)
				told(t, s.run(), api.OK)
			}
		}
	}
	if flowsLaid != 50 || rings != 75 {
		t.Errorf("%d flows, %d rings", flowsLaid, rings)
	}
}

// P10.1, P10.2, P10.3: of each flow of four nodes, whose parents may be there or not, some go, and come again, or are put again.
func TestEachDrop(t *testing.T) {
	eachRow(4, 6, func(row []int) {
		l := family(row)
		if _, e := empty(t).verdict(l); e != api.OK {
			return
		}
		for some := 1; some < 16; some++ {
			s := laid(t, l...)
			var names []api.ID
			var nodes []flow.Node
			for k, n := range l {
				if some>>k&1 == 1 {
					names = append(names, n.ID)
					nodes = append(nodes, n)
				}
			}
			s.put(nodes...)
			told(t, s.run(), api.OK)
			s.drop(names...)
			if some%2 == 0 {
				told(t, s.run(), api.OK)
			}
			s.put(nodes[0])
			told(t, s.run(), api.OK)
			s.put(nodes...)
			told(t, s.run(), api.OK)
		}
	})
}

// places are some that are put in long rows: most of them leave products small, the last two let them run over soon.
func places() []api.Mat {
	most := affine.Same()
	most[7] = api.MaxNum
	third := api.F(api.One / 3)
	return []api.Mat{affine.Same(), shift(1), affine.Turn(0), affine.Turn(1), affine.Turn(2), affine.Scale(api.Vec{third, -third, api.One}), {}, affine.Move(api.Vec{-5, 7, third}), wide(-1), wide(300), most}
}

// row does one thing after the other in both, and asks for all behind each of them; of so many hundred places some let products run over.
func (s *stage) row(next func(below int) int, steps, rough int) (failed int) {
	s.t.Helper()
	all := places()
	name := func() api.ID { return s.names[next(len(s.names))] }
	node := func() flow.Node {
		n := at(name(), name(), all[next(len(all)-2)])
		if next(100) < rough {
			n.Place = all[len(all)-1-next(2)]
		}
		if next(6) == 0 {
			n.Parent = -1 - api.ID(next(3))
		}
		// Names below 0 are among all that are asked for, and are put at times.
		if n.ID < 0 && next(8) > 0 {
			n.ID = api.ID(next(5))
		}
		n.Hidden = next(4) == 0
		return n
	}
	for range steps {
		switch way := next(10); {
		case way < 5:
			l := []flow.Node{node()}
			for next(3) == 0 {
				l = append(l, node())
			}
			s.put(l...)
		case way < 7:
			var l []api.ID
			for range next(3) {
				l = append(l, name())
			}
			s.drop(l...)
		default:
			if s.run() != api.OK {
				failed++
			}
		}
	}
	return failed
}

// P10.1, P10.2, P10.3: long rows of Put, Drop and Run, with few names and with many, with products that run over and without.
func TestRows(t *testing.T) {
	next := draw()
	for _, count := range []int{2, 4, 7, 12, 30} {
		for _, rough := range []int{0, 3, 20} {
			var names []api.ID
			for n := range count {
				names = append(names, api.ID(n*n+n/3))
			}
			failed := empty(t, names...).row(next, 700, rough)
			if rough == 0 && failed > 0 || rough == 20 && count > 4 && failed == 0 {
				t.Errorf("%d names, %d rough: %d failed", count, rough, failed)
			}
		}
	}
}

// P10.1, P10.2, P10.3: long rows of puts that hang chains of about 16 one under the other, so that some come too deep.
func TestDeepRows(t *testing.T) {
	next := draw()
	s := empty(t)
	deep, fine := 0, 0
	s.put(chain(0, 40, shift(0))...)
	for range 300 {
		id := api.ID(next(40))
		switch next(20) {
		case 0:
			s.drop(id)
		case 1, 2:
			s.put(on(id, -1))
		default:
			s.put(on(id, id-1))
		}
		if next(2) == 0 {
			continue
		}
		if s.run() == api.ErrDeep {
			deep++
		} else {
			fine++
		}
	}
	if deep < 10 || fine < 10 {
		t.Errorf("%d deep, %d fine", deep, fine)
	}
}

// P10.2 (P2): the same nodes, however they came to be, have the same error and the same states.
func TestAnyOrder(t *testing.T) {
	next := draw()
	l := []flow.Node{at(2, 1, affine.Turn(0)), on(9, 1), veiled(6, 2), on(3, 2), at(4, 2, wide(3)), on(5, 4), at(8, 4, affine.Turn(2)), at(1, 7, wide(-2)), on(10, 66)}
	for range 200 {
		s := empty(t)
		for range 10 {
			s.put(on(api.ID(next(12)), api.ID(next(12))))
			if next(3) == 0 {
				s.run()
			}
		}
		s.drop(s.known()...)
		for n := range l {
			swap := next(n + 1)
			l[n], l[swap] = l[swap], l[n]
		}
		for _, n := range l {
			s.put(n)
			if next(3) == 0 {
				s.run()
			}
		}
		told(t, s.run(), api.OK)
		if got, ok := s.f.State(5); !ok || !got.Shown || got.World[0] != -6*api.One {
			t.Fatalf("State(5): %v %t", got, ok)
		}
	}
}

// P10.3: in a bushy forest a run touches who was put, and who hangs on it, once, and nobody else.
func TestOnlyWhatMustBe(t *testing.T) {
	next := draw()
	s := empty(t)
	var l []flow.Node
	for id := range api.ID(120) {
		up := (id - 1) / 3
		if id%40 == 0 {
			up = -1
		}
		l = append(l, on(id, up))
	}
	s.put(l...)
	told(t, s.run(), api.OK)
	for range 60 {
		id := api.ID(next(120))
		had := s.f.Steps()
		s.put(l[id])
		want := len(s.behind(id))
		told(t, s.run(), api.OK)
		if n := s.f.Steps() - had; n != want {
			t.Fatalf("%d: %d steps, wanted %d", id, n, want)
		}
		had = s.f.Steps()
		s.drop(id)
		told(t, s.run(), api.OK)
		if n := s.f.Steps() - had; n != want-1 {
			t.Fatalf("drop of %d: %d steps, wanted %d", id, n, want-1)
		}
		s.put(l[id])
		told(t, s.run(), api.OK)
	}
}

// P10.1, P10.3 (P1): very many nodes, in one long chain and in one wide family, put at once, turned round, and taken down.
func TestVeryMany(t *testing.T) {
	const many = 20000
	f := flow.New()
	long := chain(0, many, shift(0))
	told(t, f.Put(long...), api.OK)
	if l, e := f.Run(); e != api.ErrDeep || len(l) != many || l[0] != 0 || l[many-1] != many-1 {
		t.Fatalf("Run: %d of %d", e, len(l))
	}
	told(t, f.Put(on(0, many-1)), api.ErrCycle)
	turned := make([]flow.Node, many)
	for id := range api.ID(many) {
		turned[id] = on(id, id+1)
	}
	told(t, f.Put(turned...), api.OK)
	if l, e := f.Run(); e != api.ErrDeep || len(l) != many || l[0] != many-1 || l[many-1] != 0 {
		t.Fatalf("Run: %d of %d", e, len(l))
	}
	for id := range turned {
		turned[id].Parent = many
	}
	told(t, f.Put(turned...), api.OK)
	told(t, f.Put(on(many, -1)), api.OK)
	if l, e := f.Run(); e != api.OK || len(l) != many+1 || l[0] != many || l[1] != 0 {
		t.Fatalf("Run: %d of %d", e, len(l))
	}
	told(t, f.Put(turned[7]), api.OK)
	if l, e := f.Run(); e != api.OK || !slices.Equal(l, []api.ID{7}) {
		t.Fatalf("Run: %d of %d", e, len(l))
	}
	if n := f.Drop(many); n != 1 {
		t.Fatalf("Drop: %d", n)
	}
	if l, e := f.Run(); e != api.OK || len(l) != many || f.Steps() != 4*many+2 {
		t.Fatalf("Run: %d of %d, Steps: %d", e, len(l), f.Steps())
	}
	if n := f.Drop(f.Nodes()...); n != many || len(f.Nodes()) != 0 {
		t.Fatalf("Drop: %d", n)
	}
}
