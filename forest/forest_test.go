package forest_test

import (
	"math"
	"slices"
	"testing"

	"gesso/api"
	"gesso/forest"
)

// farNames are names below 0 and far beyond; some would be 0, 1 or 2 if they were cut short.
func farNames() []api.ID {
	return []api.ID{math.MinInt, math.MinInt + 1, -1 << 32, -1<<32 + 1, -1<<32 + 2, -1 << 31, -257, -256, -2, -1, 0, 1, 2, 255, 256, 1<<24 - 1, 1 << 24, 1<<31 - 1, 1 << 32, 1<<32 + 1, 1<<32 + 2, math.MaxInt - 1, math.MaxInt}
}

// grove is a forest, and the same by the document's words: of some names a parent.
type grove struct {
	t       *testing.T
	f       *forest.Forest
	parents map[api.ID]api.ID
	names   []api.ID // all that are asked for, rising
}

// made is a forest in which nobody has a parent, and the same by hand.
func made(t *testing.T, names ...api.ID) *grove {
	t.Helper()
	f := forest.New()
	if f == nil {
		t.Fatal("New: nil")
	}
	names = slices.Compact(slices.Sorted(slices.Values(names)))
	return &grove{t: t, f: f, parents: map[api.ID]api.ID{}, names: names}
}

// planted is a forest with these children and parents.
func planted(t *testing.T, links ...[2]api.ID) *grove {
	t.Helper()
	names := []api.ID{-1, 0, 77, 1 << 40}
	for _, link := range links {
		names = append(names, link[0], link[1])
	}
	g := made(t, names...)
	for _, link := range links {
		g.set(link[0], link[1])
		if parent, ok := g.parents[link[0]]; !ok || parent != link[1] {
			t.Fatalf("no forest: %v", links)
		}
	}
	return g
}

// above are a name's parent, that one's parent, and so on.
func (g *grove) above(id api.ID) (l []api.ID) {
	for {
		parent, ok := g.parents[id]
		if !ok {
			return l
		}
		l = append(l, parent)
		id = parent
	}
}

// children are those whose parent a name is, rising.
func (g *grove) children(id api.ID) (l []api.ID) {
	for child, parent := range g.parents {
		if parent == id {
			l = append(l, child)
		}
	}
	slices.Sort(l)
	return l
}

// behind are a name, and behind it its children, rising, each likewise with its own behind it.
func (g *grove) behind(id api.ID) []api.ID {
	l := []api.ID{id}
	for _, child := range g.children(id) {
		l = append(l, g.behind(child)...)
	}
	return l
}

// under are who stand under names.
func (g *grove) under(names ...api.ID) (l []api.ID) {
	for _, id := range slices.Compact(slices.Sorted(slices.Values(names))) {
		if !slices.ContainsFunc(g.above(id), func(up api.ID) bool { return slices.Contains(names, up) }) {
			l = append(l, g.behind(id)...)
		}
	}
	return l
}

// set sets a parent in both; where that would be a ring, ErrCycle is wanted.
func (g *grove) set(child, parent api.ID) {
	g.t.Helper()
	want := api.OK
	if child == parent || slices.Contains(g.above(parent), child) {
		want = api.ErrCycle
	} else {
		g.parents[child] = parent
	}
	if e := g.f.Set(child, parent); e != want {
		g.t.Fatalf("Set(%d, %d): %d, wanted %d", child, parent, e, want)
	}
}

// free frees names in both.
func (g *grove) free(l ...api.ID) {
	g.t.Helper()
	had := len(g.parents)
	for _, id := range l {
		delete(g.parents, id)
	}
	if n := g.f.Free(l...); n != had-len(g.parents) {
		g.t.Fatalf("Free(%v): %d, wanted %d", l, n, had-len(g.parents))
	}
}

// drop drops a name in both.
func (g *grove) drop(id api.ID) {
	g.t.Helper()
	want := g.children(id)
	delete(g.parents, id)
	for _, child := range want {
		delete(g.parents, child)
	}
	if l := g.f.Drop(id); !slices.Equal(l, want) {
		g.t.Fatalf("Drop(%d): %v, wanted %v", id, l, want)
	}
}

// stands holds who stands under names against what is kept by hand.
func (g *grove) stands(names ...api.ID) {
	g.t.Helper()
	want := g.under(names...)
	if l := g.f.Under(names...); !slices.Equal(l, want) {
		g.t.Fatalf("Under(%v): %v, wanted %v", names, l, want)
	}
}

// one asks for all that is told of a name, and holds it against what is kept by hand.
func (g *grove) one(id api.ID) {
	g.t.Helper()
	want, had := g.parents[id]
	if parent, ok := g.f.Parent(id); parent != want || ok != had {
		g.t.Fatalf("Parent(%d): %d %t, wanted %d %t", id, parent, ok, want, had)
	}
	if l := g.f.Children(id); !slices.Equal(l, g.children(id)) {
		g.t.Fatalf("Children(%d): %v, wanted %v", id, l, g.children(id))
	}
	if l := g.f.Above(id); !slices.Equal(l, g.above(id)) {
		g.t.Fatalf("Above(%d): %v, wanted %v", id, l, g.above(id))
	}
	if n := g.f.Depth(id); n != len(g.above(id))+1 {
		g.t.Fatalf("Depth(%d): %d, wanted %d", id, n, len(g.above(id))+1)
	}
	g.stands(id)
}

// same asks for all that is told, and holds it against what is kept by hand.
func (g *grove) same() {
	g.t.Helper()
	for _, id := range g.names {
		g.one(id)
	}
	g.stands()
	g.stands(g.names...)
	falling := slices.Clone(g.names)
	slices.Reverse(falling)
	g.stands(falling...)
	g.stands(slices.Concat(falling, g.names)...)
}

// noRing asks the forest alone whether nobody is above oneself, and whether under a name are it, and those that have it above, each one once.
func (g *grove) noRing() {
	g.t.Helper()
	above := map[api.ID][]api.ID{}
	for _, id := range g.names {
		above[id] = g.f.Above(id)
		if slices.Contains(above[id], id) {
			g.t.Fatalf("Above(%d): %v", id, above[id])
		}
		if sorted := slices.Sorted(slices.Values(above[id])); len(slices.Compact(sorted)) != len(above[id]) {
			g.t.Fatalf("Above(%d): one stands twice: %v", id, above[id])
		}
	}
	for _, id := range g.names {
		times := map[api.ID]int{}
		for _, under := range g.f.Under(id) {
			times[under]++
		}
		for _, under := range g.names {
			want := 0
			if under == id || slices.Contains(above[under], id) {
				want = 1
			}
			if times[under] != want {
				g.t.Fatalf("Under(%d): %d stands %d times, wanted %d", id, under, times[under], want)
			}
		}
	}
}

// draw gives numbers by a fixed rule.
func draw() func(below int) int {
	state := uint32(2463534242)
	return func(below int) int {
		state ^= state << 13
		state ^= state >> 17
		state ^= state << 5
		return int(state>>1) % below
	}
}

// P9.1: in a new forest nobody has a parent, whatever the name is; each name alone stands under itself.
func TestNew(t *testing.T) {
	g := made(t, farNames()...)
	g.same()
	for _, id := range farNames() {
		if n := g.f.Depth(id); n != 1 {
			t.Errorf("Depth(%d): %d", id, n)
		}
		if l := g.f.Under(id); !slices.Equal(l, []api.ID{id}) {
			t.Errorf("Under(%d): %v", id, l)
		}
		g.drop(id)
		g.free(id)
	}
	g.same()
}

// P9.1: answers that are written out: of a tree with two families, a chain, and a name that nobody knows.
func TestWrittenOut(t *testing.T) {
	g := planted(t, [2]api.ID{3, 10}, [2]api.ID{12, 10}, [2]api.ID{20, 3}, [2]api.ID{1, 3}, [2]api.ID{2, 12}, [2]api.ID{5, 30}, [2]api.ID{30, 4})
	for _, x := range []struct{ names, want []api.ID }{
		{nil, nil},
		{[]api.ID{10}, []api.ID{10, 3, 1, 20, 12, 2}},
		{[]api.ID{10, 4}, []api.ID{4, 30, 5, 10, 3, 1, 20, 12, 2}},
		{[]api.ID{12, 3}, []api.ID{3, 1, 20, 12, 2}},
		{[]api.ID{2, 1, 20, 12}, []api.ID{1, 12, 2, 20}},
		{[]api.ID{20, 20, 1, 20}, []api.ID{1, 20}},
		{[]api.ID{1, 10, 3}, []api.ID{10, 3, 1, 20, 12, 2}},
		{[]api.ID{99, 5, -6, 30}, []api.ID{-6, 30, 5, 99}},
	} {
		if l := g.f.Under(x.names...); !slices.Equal(l, x.want) {
			t.Errorf("Under(%v): %v, wanted %v", x.names, l, x.want)
		}
	}
	if l := g.f.Above(20); !slices.Equal(l, []api.ID{3, 10}) || g.f.Depth(20) != 3 || g.f.Depth(10) != 1 {
		t.Errorf("Above(20): %v", l)
	}
	if l := g.f.Children(10); !slices.Equal(l, []api.ID{3, 12}) {
		t.Errorf("Children(10): %v", l)
	}
	if l := g.f.Drop(3); !slices.Equal(l, []api.ID{1, 20}) {
		t.Errorf("Drop(3): %v", l)
	}
	if n := g.f.Free(12, 3, 2, 12, 77); n != 2 {
		t.Errorf("Free: %d", n)
	}
	if l := g.f.Under(10, 3); !slices.Equal(l, []api.ID{3, 10}) {
		t.Errorf("Under: %v", l)
	}
}

// P9.1: a child that gets another parent leaves the one that it had, and takes its own children along.
func TestSetInstead(t *testing.T) {
	g := planted(t, [2]api.ID{5, 1}, [2]api.ID{3, 1}, [2]api.ID{4, 1}, [2]api.ID{9, 4}, [2]api.ID{8, 9}, [2]api.ID{6, 2})
	for _, parent := range []api.ID{2, 3, 5, 6, 2, 1, 77, -1, 0, 1 << 40, 1} {
		g.set(4, parent)
		g.same()
		g.noRing()
	}
	g.set(1, 2)
	g.same()
	g.set(3, 2)
	g.set(5, 2)
	g.set(4, 2)
	g.same()
	if l := g.f.Children(1); len(l) != 0 {
		t.Errorf("Children(1): %v", l)
	}
}

// P9.1: the same parent again changes nothing; the child is still one child.
func TestSetAgain(t *testing.T) {
	g := planted(t, [2]api.ID{5, 1}, [2]api.ID{3, 1}, [2]api.ID{4, 1}, [2]api.ID{9, 4}, [2]api.ID{1, 0})
	for range 3 {
		for _, link := range [][2]api.ID{{4, 1}, {3, 1}, {5, 1}, {9, 4}, {1, 0}} {
			g.set(link[0], link[1])
			g.same()
		}
	}
	g.noRing()
	g.free(4)
	g.same()
	if l := g.f.Children(1); !slices.Equal(l, []api.ID{3, 5}) {
		t.Errorf("Children(1): %v", l)
	}
}

// P9.1, P9.2: a name on itself, on its child, or on one far under it is ErrCycle, and nothing; another one is fine.
func TestSetRing(t *testing.T) {
	links := [][2]api.ID{{2, 1}, {3, 2}, {4, 3}, {5, 4}, {6, 3}, {7, 1}, {1, 0}, {9, 8}}
	for child := range api.ID(11) {
		for parent := range api.ID(11) {
			g := planted(t, links...)
			g.set(child, parent)
			g.same()
			g.noRing()
		}
	}
	g := planted(t, links...)
	for _, x := range [][2]api.ID{{1, 1}, {0, 0}, {77, 77}, {-1, -1}, {1, 2}, {1, 3}, {1, 5}, {0, 5}, {0, 6}, {2, 6}, {3, 5}, {8, 9}, {0, 7}} {
		if e := g.f.Set(x[0], x[1]); e != api.ErrCycle {
			t.Errorf("Set(%d, %d): %d", x[0], x[1], e)
		}
		g.same()
	}
	// What was a ring is none any more when the link between is gone.
	g.free(3)
	g.set(1, 5)
	g.set(3, 2)
	g.same()
	g.noRing()
	g.drop(4)
	g.set(3, 2)
	g.set(8, 3)
	g.same()
	g.noRing()
}

// P9.1: Free of nothing, of one name twice, of names without a parent, and of those that nobody knows.
func TestFree(t *testing.T) {
	g := planted(t, [2]api.ID{5, 1}, [2]api.ID{3, 1}, [2]api.ID{4, 1}, [2]api.ID{9, 4}, [2]api.ID{8, 9}, [2]api.ID{7, 9})
	for _, x := range []struct {
		names []api.ID
		want  int
	}{
		{nil, 0},
		{[]api.ID{}, 0},
		{[]api.ID{1}, 0},
		{[]api.ID{77, -1, 1 << 40, 1, 77}, 0},
		{[]api.ID{4, 4}, 1},
		{[]api.ID{4}, 0},
		{[]api.ID{9, 1, 77, 9, 5}, 2},
		{[]api.ID{8, 7, 3, 7, 8}, 3},
		{[]api.ID{9, 8, 7, 5, 4, 3, 1}, 0},
	} {
		had := len(g.parents)
		g.free(x.names...)
		if n := had - len(g.parents); n != x.want {
			t.Errorf("Free(%v): %d, wanted %d", x.names, n, x.want)
		}
		g.same()
		g.noRing()
	}
}

// P9.1: Free takes a name's parent from it, not its children.
func TestFreeKeepsChildren(t *testing.T) {
	g := planted(t, [2]api.ID{2, 1}, [2]api.ID{3, 2}, [2]api.ID{4, 2}, [2]api.ID{5, 4})
	g.free(2)
	g.same()
	if l := g.f.Children(2); !slices.Equal(l, []api.ID{3, 4}) || g.f.Depth(5) != 3 {
		t.Errorf("Children(2): %v, Depth(5): %d", l, g.f.Depth(5))
	}
}

// P9.1: Drop of a name with no parent, with no children, with both, with neither, and of one twice.
func TestDrop(t *testing.T) {
	links := [][2]api.ID{{2, 1}, {9, 1}, {6, 2}, {3, 2}, {4, 2}, {5, 4}, {8, 4}}
	for _, x := range []struct {
		id   api.ID
		want []api.ID
	}{
		{1, []api.ID{2, 9}},
		{2, []api.ID{3, 4, 6}},
		{4, []api.ID{5, 8}},
		{5, nil},
		{9, nil},
		{77, nil},
		{-1, nil},
	} {
		g := planted(t, links...)
		if l := g.children(x.id); !slices.Equal(l, x.want) {
			t.Errorf("Drop(%d): %v, wanted %v", x.id, l, x.want)
		}
		g.drop(x.id)
		g.same()
		g.noRing()
		g.drop(x.id)
		g.same()
		// A name that was dropped may have a parent, and children, as any other one.
		g.set(x.id, 50)
		g.set(60, x.id)
		g.same()
		g.drop(x.id)
		g.same()
	}
}

// P9.1: what goes leaves no trace: a forest that is taken down in any order is as a new one.
func TestTakenDown(t *testing.T) {
	next := draw()
	g := made(t, 0, 1, 2, 3, 4, 5, 6, 7)
	for range 200 {
		for child := range api.ID(8) {
			g.set(child, api.ID(next(8)))
		}
		for len(g.parents) > 0 {
			if id := api.ID(next(8)); next(2) == 0 {
				g.free(id)
			} else {
				g.drop(id)
			}
		}
		g.same()
		for _, id := range g.names {
			if l := g.f.Under(id); len(l) != 1 || g.f.Depth(id) != 1 {
				t.Fatalf("Under(%d): %v", id, l)
			}
		}
	}
}

// orders are some rows of names: all subsets of these, rising, falling, and with the first one again at the end.
func orders(names []api.ID) (l [][]api.ID) {
	for bits := range 1 << len(names) {
		var rising []api.ID
		for place, id := range names {
			if bits>>place&1 == 1 {
				rising = append(rising, id)
			}
		}
		falling := slices.Clone(rising)
		slices.Reverse(falling)
		l = append(l, rising, falling)
		if len(rising) > 0 {
			l = append(l, slices.Concat(rising, rising[:1]), slices.Concat(falling, falling, rising))
		}
	}
	return l
}

// eachForest calls with the links of each forest of these names, by the parent that each of them has, or -1 for none.
func eachForest(names []api.ID, each func(places []int)) {
	places := make([]int, len(names))
	var choose func(at int)
	choose = func(at int) {
		if at == len(names) {
			if !ring(places) {
				each(places)
			}
			return
		}
		for places[at] = -1; places[at] < len(names); places[at]++ {
			choose(at + 1)
		}
	}
	choose(0)
}

// ring tells whether one comes to no end when one goes from parent to parent.
func ring(places []int) bool {
	for at := range places {
		for range len(places) {
			if at >= 0 {
				at = places[at]
			}
		}
		if at >= 0 {
			return true
		}
	}
	return false
}

// P9.1, P9.2: in each forest of four names each call answers by the document's words, and leaves what they say.
func TestEachForest(t *testing.T) {
	for _, names := range [][]api.ID{{0, 1, 2, 3}, {7, -7, 1 << 40, 0}, {math.MaxInt, 5, math.MinInt, -1}} {
		forests := 0
		rows := orders(names)
		eachForest(names, func(places []int) {
			forests++
			grown := func() *grove {
				g := made(t, append([]api.ID{42}, names...)...)
				for at, place := range places {
					if place >= 0 {
						g.set(names[at], names[place])
					}
				}
				return g
			}
			g := grown()
			g.same()
			g.noRing()
			for _, row := range rows {
				g.stands(row...)
				freed := grown()
				freed.free(row...)
				freed.same()
			}
			for _, id := range names {
				dropped := grown()
				dropped.drop(id)
				dropped.same()
				for _, parent := range names {
					moved := grown()
					moved.set(id, parent)
					moved.same()
					moved.noRing()
				}
			}
		})
		if forests != 125 {
			t.Fatalf("%d forests, wanted 125", forests)
		}
	}
}

// row does one thing after the other in both, and asks for all behind each of them.
func (g *grove) row(next func(below int) int, steps int, sets int) {
	g.t.Helper()
	name := func() api.ID { return g.names[next(len(g.names))] }
	for range steps {
		switch way := next(10); {
		case way < sets:
			g.set(name(), name())
		case way == sets:
			g.drop(name())
		default:
			var l []api.ID
			for range next(4) {
				l = append(l, name())
			}
			g.free(l...)
		}
		g.same()
		g.noRing()
		var l []api.ID
		for range next(len(g.names) + 3) {
			l = append(l, name())
		}
		g.stands(l...)
	}
}

// P9.1, P9.2: long rows of Set, Free and Drop, with few names and with many, few links and many.
func TestRows(t *testing.T) {
	next := draw()
	for _, count := range []int{2, 3, 5, 9, 16} {
		for _, sets := range []int{4, 7, 9} {
			var names []api.ID
			for n := range count {
				names = append(names, api.ID(n*n-7))
			}
			made(t, names...).row(next, 300, sets)
		}
	}
	made(t, farNames()...).row(next, 400, 8)
}

// P9.1: names below 0 and far beyond are names as others: none of them is taken for another one.
func TestFarNames(t *testing.T) {
	far := farNames()
	g := made(t, far...)
	for n := 1; n < len(far); n++ {
		g.set(far[n], far[n-1])
	}
	g.same()
	g.noRing()
	if l := g.f.Under(far[0]); !slices.Equal(l, far) {
		t.Errorf("Under: %v", l)
	}
	for n := range far {
		g.set(far[0], far[n])
	}
	g.drop(0)
	g.drop(math.MinInt)
	g.drop(math.MaxInt)
	g.same()
	wide := made(t, far...)
	for _, id := range slices.Backward(far) {
		wide.set(id, 3)
	}
	wide.same()
	if l := wide.f.Children(3); !slices.Equal(l, far) {
		t.Errorf("Children: %v", l)
	}
	if l := wide.f.Drop(3); !slices.Equal(l, far) {
		t.Errorf("Drop: %v", l)
	}
}

// count are numbers from one on, each one more.
func count(from api.ID, n int) (l []api.ID) {
	for id := range api.ID(n) {
		l = append(l, from+id)
	}
	return l
}

// chain is a forest in which each of so many names hangs on the one ahead of it, built from either end.
func chain(t *testing.T, n int, down bool) *forest.Forest {
	t.Helper()
	f := forest.New()
	for at := 1; at < n; at++ {
		child := api.ID(at)
		if !down {
			child = api.ID(n - at)
		}
		if e := f.Set(child, child-1); e != api.OK {
			t.Fatalf("Set(%d, %d): %d", child, child-1, e)
		}
	}
	return f
}

// P9.1, P9.2: a long chain, built from either end: no link of it can be closed to a ring, and it can be cut in two.
func TestLongChain(t *testing.T) {
	const long = 20000
	all := count(0, long)
	for _, down := range []bool{true, false} {
		f := chain(t, long, down)
		if l := f.Under(0); !slices.Equal(l, all) {
			t.Fatalf("Under(0): %d names", len(l))
		}
		if l := f.Under(all...); !slices.Equal(l, all) {
			t.Fatalf("Under of all: %d names", len(l))
		}
		above := f.Above(long - 1)
		slices.Reverse(above)
		if !slices.Equal(above, all[:long-1]) || f.Depth(long-1) != long || f.Depth(0) != 1 || f.Depth(77) != 78 {
			t.Fatalf("Above: %d names, Depth: %d", len(above), f.Depth(long-1))
		}
		for _, under := range []api.ID{0, 1, 2, 77, long / 2, long - 2, long - 1} {
			if e := f.Set(0, under); e != api.ErrCycle {
				t.Fatalf("Set(0, %d): %d", under, e)
			}
		}
		if l := f.Drop(long / 2); !slices.Equal(l, []api.ID{long/2 + 1}) {
			t.Fatalf("Drop: %v", l)
		}
		if n := f.Depth(long - 1); n != long/2-1 {
			t.Fatalf("Depth: %d", n)
		}
		if e := f.Set(0, long-1); e != api.OK || f.Depth(long/2-1) != long-1 {
			t.Fatalf("Set: %d, Depth: %d", e, f.Depth(long/2-1))
		}
		if e := f.Set(long/2+1, long/2-1); e != api.ErrCycle {
			t.Fatalf("Set: %d", e)
		}
	}
}

// P9.1, P9.2: a wide family, whose children come and go in any order, stands rising.
func TestWideFamily(t *testing.T) {
	const wide = 3001
	all := count(0, wide)
	f := forest.New()
	for n := range wide {
		if e := f.Set(api.ID(n*1234%wide), -5); e != api.OK {
			t.Fatalf("Set: %d", e)
		}
	}
	if l := f.Children(-5); !slices.Equal(l, all) {
		t.Fatalf("Children: %d names", len(l))
	}
	if l := f.Under(-5); !slices.Equal(l, append([]api.ID{-5}, all...)) {
		t.Fatalf("Under: %d names", len(l))
	}
	if l := f.Under(all...); !slices.Equal(l, all) {
		t.Fatalf("Under of all: %d names", len(l))
	}
	var odd, even []api.ID
	for _, id := range all {
		if id%2 == 0 {
			even = append(even, id)
		} else {
			odd = append(odd, id)
		}
	}
	if n := f.Free(append(slices.Clone(odd), odd...)...); n != len(odd) {
		t.Fatalf("Free: %d, wanted %d", n, len(odd))
	}
	if l := f.Children(-5); !slices.Equal(l, even) {
		t.Fatalf("Children: %d names", len(l))
	}
	if l := f.Drop(-5); !slices.Equal(l, even) {
		t.Fatalf("Drop: %d names", len(l))
	}
	for _, id := range all {
		if _, ok := f.Parent(id); ok || f.Depth(id) != 1 {
			t.Fatalf("Parent(%d)", id)
		}
	}
}

// P9.1, P9.2: several trees side by side, bushy and deep, of 400 names in all.
func TestManyTrees(t *testing.T) {
	next := draw()
	g := made(t, count(0, 400)...)
	for child := range api.ID(400) {
		if child%50 > 0 {
			g.set(child, child-1-api.ID(next(int(child%50))))
		}
	}
	g.same()
	g.noRing()
	for range 40 {
		var l []api.ID
		for range next(60) {
			l = append(l, api.ID(next(420)))
		}
		g.stands(l...)
		g.free(l...)
		g.set(api.ID(next(400)), api.ID(next(400)))
		g.drop(api.ID(next(400)))
		g.stands(count(0, 400)...)
		for _, id := range l {
			g.one(id)
		}
	}
	g.same()
	g.noRing()
}

// P9.1: on a nil forest there are ErrArg, nothing, false and 0; ErrArg comes ahead of ErrCycle.
func TestNil(t *testing.T) {
	var f *forest.Forest
	for _, id := range farNames() {
		if f.Set(id, 5) != api.ErrArg || f.Set(5, id) != api.ErrArg || f.Set(id, id) != api.ErrArg {
			t.Errorf("Set(%d)", id)
		}
		if f.Free(id) != 0 || f.Free(id, id, 3) != 0 || f.Depth(id) != 0 {
			t.Errorf("Free(%d), Depth(%d)", id, id)
		}
		if len(f.Drop(id))+len(f.Children(id))+len(f.Above(id))+len(f.Under(id))+len(f.Under(id, 3)) != 0 {
			t.Errorf("a list of %d", id)
		}
		if parent, ok := f.Parent(id); parent != 0 || ok {
			t.Errorf("Parent(%d): %d %t", id, parent, ok)
		}
	}
	if f.Free() != 0 || len(f.Under()) != 0 {
		t.Error("of nothing")
	}
}

// P9.1: names that are handed in are not written into, nor what lies behind them; and they are not kept.
func TestHandedIn(t *testing.T) {
	g := planted(t, [2]api.ID{5, 1}, [2]api.ID{3, 1}, [2]api.ID{4, 1}, [2]api.ID{9, 4}, [2]api.ID{8, 9}, [2]api.ID{7, 9})
	had := []api.ID{9, 4, 9, 3, 77, 1, 7, 50, 40, 30}
	l := slices.Clone(had)
	g.f.Under(l[:7]...)
	if !slices.Equal(l, had) {
		t.Errorf("Under: %v, wanted %v", l, had)
	}
	g.free(l[2:4]...)
	if !slices.Equal(l, had) {
		t.Errorf("Free: %v, wanted %v", l, had)
	}
	for place := range l {
		l[place] = 1
	}
	g.same()
}

// P9.1: lists that are answered are new memory: who writes into them, or adds to them, changes nothing.
func TestNewMemory(t *testing.T) {
	g := planted(t, [2]api.ID{5, 1}, [2]api.ID{3, 1}, [2]api.ID{4, 1}, [2]api.ID{9, 4}, [2]api.ID{8, 9}, [2]api.ID{7, 9})
	spoil := func(l []api.ID) {
		_ = append(l, 600, 601, 602)
		for place := range l {
			l[place] = 500
		}
		g.same()
	}
	for _, id := range g.names {
		spoil(g.f.Children(id))
		spoil(g.f.Above(id))
		spoil(g.f.Under(id))
	}
	spoil(g.f.Under(g.names...))
	spoil(g.f.Under(8, 77))
	dropped := g.f.Drop(4)
	delete(g.parents, 4)
	delete(g.parents, 9)
	g.set(2, 4)
	g.set(6, 4)
	if !slices.Equal(dropped, []api.ID{9}) {
		t.Errorf("Drop: %v", dropped)
	}
	spoil(dropped)
	spoil(g.f.Children(1))
}

// P9.1: an answer stays as it was, whatever is called behind it.
func TestAnswersStay(t *testing.T) {
	g := planted(t, [2]api.ID{5, 1}, [2]api.ID{3, 1}, [2]api.ID{4, 1}, [2]api.ID{9, 4}, [2]api.ID{8, 9}, [2]api.ID{7, 9})
	answers := [][]api.ID{g.f.Children(1), g.f.Children(9), g.f.Above(8), g.f.Under(1), g.f.Under(9, 5), g.f.Under(4)}
	var had [][]api.ID
	for _, l := range answers {
		had = append(had, slices.Clone(l))
	}
	dropped := g.f.Drop(9)
	g.f.Free(5, 3)
	g.f.Set(6, 1)
	g.f.Set(2, 1)
	g.f.Set(10, 9)
	g.f.Set(11, 9)
	g.f.Free(10)
	g.f.Drop(1)
	for n, l := range answers {
		if !slices.Equal(l, had[n]) {
			t.Errorf("answer %d: %v, wanted %v", n, l, had[n])
		}
	}
	if !slices.Equal(dropped, []api.ID{7, 8}) {
		t.Errorf("Drop: %v", dropped)
	}
}

// P9.1 (P2): what one forest has, no other one has; what is asked changes nothing.
func TestSideBySide(t *testing.T) {
	names := count(0, 6)
	one, other := made(t, names...), made(t, names...)
	next := draw()
	for range 200 {
		one.set(api.ID(next(6)), api.ID(next(6)))
		one.same()
		other.same()
		other.set(api.ID(next(6)), api.ID(next(6)))
		other.drop(api.ID(next(6)))
		one.same()
		other.same()
	}
}

// P9.1 (P2): the same parents, however they came to be, make the same answers.
func TestAnyOrder(t *testing.T) {
	next := draw()
	links := [][2]api.ID{{2, 1}, {9, 1}, {6, 2}, {3, 2}, {4, 2}, {5, 4}, {8, 4}, {1, 7}}
	want := []api.ID{7, 1, 2, 3, 4, 5, 8, 6, 9}
	for range 300 {
		g := made(t, count(0, 11)...)
		for range 10 {
			g.set(api.ID(next(11)), api.ID(next(11)))
		}
		g.free(count(0, 11)...)
		for n := range links {
			swap := next(n + 1)
			links[n], links[swap] = links[swap], links[n]
		}
		for _, link := range links {
			g.set(link[0], link[1])
		}
		g.same()
		if l := g.f.Under(8, 7, 3); !slices.Equal(l, want) {
			t.Fatalf("%v: Under: %v, wanted %v", links, l, want)
		}
	}
}
