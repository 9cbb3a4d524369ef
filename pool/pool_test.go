package pool_test

import (
	"math"
	"slices"
	"testing"

	"gesso/api"
	"gesso/pool"
)

// The limits as the document writes them, so that a test leans on no constant of the program.
const (
	indexes     = 256
	generations = 65536
	names       = indexes * generations
)

// wrongRooms are rooms that can't be.
func wrongRooms() []int {
	return []int{math.MinInt, -1 << 32, -257, -256, -2, -1, 257, 258, 512, 1 << 16, 1 << 32, 1<<32 + 3, math.MaxInt}
}

// wrongNames are numbers that are no names; those of 32 bits and more would be names if they were cut short.
func wrongNames() []api.ID {
	return []api.ID{math.MinInt, -1 << 32, -names, -257, -256, -255, -1, names, names + 1, names + 255, names + 256, 2*names - 1, 1 << 32, 1<<32 + 1, math.MaxInt}
}

// model is a pool by the document's words: of each index a generation, and which names live.
type model struct {
	gens []int
	live map[api.ID]int
}

func newModel(room int) *model {
	return &model{gens: make([]int, room), live: map[api.ID]int{}}
}

// at is an index's name that lives.
func (m *model) at(index int) (api.ID, bool) {
	for id := range m.live {
		if int(id)&0xff == index {
			return id, true
		}
	}
	return 0, false
}

func (m *model) take() (api.ID, api.Errno) {
	for index, gen := range m.gens {
		if _, ok := m.at(index); !ok && gen <= 65535 {
			id := api.ID(gen<<8 | index)
			m.live[id] = 1
			return id, api.OK
		}
	}
	return 0, api.ErrFull
}

func (m *model) drop(id api.ID) bool {
	if m.live[id] == 0 {
		return false
	}
	delete(m.live, id)
	m.gens[int(id)&0xff]++
	return true
}

func (m *model) all() []api.ID {
	var l []api.ID
	for index := range m.gens {
		if id, ok := m.at(index); ok {
			l = append(l, id)
		}
	}
	return l
}

// made is a pool with so much room.
func made(t *testing.T, room int) *pool.Pool {
	t.Helper()
	p, e := pool.New(room)
	if p == nil || e != api.OK {
		t.Fatalf("New(%d): %v %d", room, p, e)
	}
	return p
}

// take asks for a name, which must be the one that is wanted.
func take(t *testing.T, p *pool.Pool, want api.ID) {
	t.Helper()
	if id, e := p.Take(); id != want || e != api.OK {
		t.Fatalf("Take: %d %d, wanted %d", id, e, want)
	}
}

// full asks for a name where none is left.
func full(t *testing.T, p *pool.Pool) {
	t.Helper()
	if id, e := p.Take(); id != 0 || e != api.ErrFull {
		t.Fatalf("Take: %d %d, wanted 0 %d", id, e, api.ErrFull)
	}
}

// drop drops a name that lives.
func drop(t *testing.T, p *pool.Pool, id api.ID) {
	t.Helper()
	if !p.Live(id) || !p.Drop(id) || p.Live(id) {
		t.Fatalf("Drop(%d)", id)
	}
}

// living asks whether those, in this order, live and no others.
func living(t *testing.T, p *pool.Pool, want ...api.ID) {
	t.Helper()
	if l := p.All(); !slices.Equal(l, want) {
		t.Fatalf("All: %v, wanted %v", l, want)
	}
	if p.Len() != len(want) {
		t.Fatalf("Len: %d, wanted %d", p.Len(), len(want))
	}
	for _, id := range want {
		if !p.Live(id) {
			t.Fatalf("Live(%d): false", id)
		}
	}
}

// wear takes and drops an index's names, from one generation up to another one; the index must be the least free one.
func wear(t *testing.T, p *pool.Pool, index, from, to int) {
	t.Helper()
	for gen := from; gen < to; gen++ {
		id := api.ID(256*gen + index)
		take(t, p, id)
		drop(t, p, id)
	}
}

// draw gives numbers by a fixed rule.
func draw() func(below int) int {
	state := uint32(2463534242)
	return func(below int) int {
		state ^= state << 13
		state ^= state >> 17
		state ^= state << 5
		return int(state>>1) % below
	}
}

// P5.1: each room from 0 to 256 gives so many indexes, rising from 0.
func TestNewRooms(t *testing.T) {
	for room := range indexes + 1 {
		p := made(t, room)
		living(t, p)
		var want []api.ID
		for index := range room {
			take(t, p, api.ID(index))
			want = append(want, api.ID(index))
		}
		full(t, p)
		full(t, p)
		living(t, p, want...)
		if p.Live(api.ID(room)) || p.Drop(api.ID(room)) {
			t.Errorf("room %d: an index that is not the pool's", room)
		}
	}
}

// P5.1: there can't be less room than 0, nor more than 256.
func TestNewWrong(t *testing.T) {
	for _, room := range wrongRooms() {
		if p, e := pool.New(room); p != nil || e != api.ErrArg {
			t.Errorf("New(%d): %v %d", room, p, e)
		}
	}
}

// P5.1: the document's example.
func TestExample(t *testing.T) {
	p := made(t, 3)
	take(t, p, 0)
	take(t, p, 1)
	take(t, p, 2)
	drop(t, p, 1)
	living(t, p, 0, 2)
	take(t, p, 257)
	living(t, p, 0, 257, 2)
}

// P5.1: the least index of which none lives is taken, whichever was dropped last, or has the least generation.
func TestTakeLeast(t *testing.T) {
	p := made(t, 4)
	for id := range api.ID(4) {
		take(t, p, id)
	}
	drop(t, p, 1)
	drop(t, p, 3)
	drop(t, p, 0)
	living(t, p, 2)
	take(t, p, 256)
	drop(t, p, 256)
	take(t, p, 512)
	take(t, p, 257)
	take(t, p, 259)
	full(t, p)
	living(t, p, 512, 257, 2, 259)
	drop(t, p, 2)
	take(t, p, 258)
	full(t, p)
}

// P5.1: what doesn't live is not dropped, and nothing is changed then.
func TestDropWrong(t *testing.T) {
	p := made(t, 3)
	wear(t, p, 0, 0, 2)
	take(t, p, 512)
	take(t, p, 1)
	drop(t, p, 1)
	// 513 is a generation that the index 1 has not had yet, 257 the one that it has, untaken; 3 and 255 are not the pool's.
	dead := append(wrongNames(), 0, 256, 768, 1024, 1, 257, 513, 2, 258, 3, 259, 255, 511, names-1, names-256, names-255)
	for _, id := range dead {
		if p.Live(id) || p.Drop(id) || p.Drop(id) || p.Live(id) {
			t.Errorf("Drop(%d): lives", id)
		}
		living(t, p, 512)
	}
	take(t, p, 257)
	take(t, p, 2)
	full(t, p)
	living(t, p, 512, 257, 2)
}

// P5.1: of an index the name of its generation alone lives, whichever else is asked.
func TestLiveOfEachGeneration(t *testing.T) {
	p := made(t, 2)
	wear(t, p, 0, 0, 300)
	take(t, p, 300*256)
	for gen := range generations {
		if p.Live(api.ID(256*gen)) != (gen == 300) {
			t.Errorf("Live: generation %d", gen)
		}
		for _, index := range []int{1, 2, 44, 255} {
			if p.Live(api.ID(256*gen + index)) {
				t.Errorf("Live: generation %d of %d", gen, index)
			}
		}
	}
}

// P5.1: a generation of 65535 is given, and, once it is dropped, nothing more of that index.
func TestLastGeneration(t *testing.T) {
	const last = names - 256
	p := made(t, 1)
	wear(t, p, 0, 0, 65535)
	take(t, p, last)
	full(t, p)
	living(t, p, last)
	drop(t, p, last)
	full(t, p)
	full(t, p)
	living(t, p)
	if p.Drop(last) || p.Drop(names) || p.Live(names) || p.Drop(0) || p.Live(0) {
		t.Error("a name that is used up")
	}
	full(t, p)
}

// P5.1: an index that is used up is passed over, the others go on.
func TestUsedUpAmongOthers(t *testing.T) {
	p := made(t, 3)
	take(t, p, 0)
	wear(t, p, 1, 0, 65536)
	take(t, p, 2)
	full(t, p)
	living(t, p, 0, 2)
	drop(t, p, 0)
	take(t, p, 256)
	full(t, p)
	drop(t, p, 2)
	take(t, p, 258)
	full(t, p)
	living(t, p, 256, 258)
}

// P5.1: the greatest name that there is, of the index 255, lives and is told like any other one.
func TestGreatestName(t *testing.T) {
	p := made(t, 256)
	for id := range api.ID(255) {
		take(t, p, id)
	}
	wear(t, p, 255, 0, 65535)
	take(t, p, names-1)
	full(t, p)
	if l := p.All(); len(l) != 256 || l[255] != names-1 || l[254] != 254 || p.Len() != 256 {
		t.Errorf("All: %v", l)
	}
	drop(t, p, names-1)
	full(t, p)
	drop(t, p, 7)
	take(t, p, 263)
	full(t, p)
}

// P5.1, P5.2: takings and droppings in many orders, and who lives behind each of them.
func TestManyOrders(t *testing.T) {
	next := draw()
	for _, room := range []int{0, 1, 2, 3, 7, 31, 255, 256} {
		for takes := range 4 {
			p, m, given := made(t, room), newModel(room), map[api.ID]int{}
			var past []api.ID
			for range 400 {
				if next(4) <= takes {
					past = bothTake(t, p, m, given, past)
				} else {
					bothDrop(t, p, m, chosen(next, m, past))
				}
				living(t, p, m.all()...)
			}
			for _, id := range past {
				if p.Live(id) != (m.live[id] == 1) {
					t.Fatalf("Live(%d): %t", id, p.Live(id))
				}
			}
		}
	}
}

// bothTake takes of pool and model; what is given goes behind past, and must be new.
func bothTake(t *testing.T, p *pool.Pool, m *model, given map[api.ID]int, past []api.ID) []api.ID {
	t.Helper()
	id, e := p.Take()
	if want, fault := m.take(); id != want || e != fault {
		t.Fatalf("Take: %d %d, wanted %d %d", id, e, want, fault)
	}
	if e != api.OK {
		return past
	}
	given[id]++
	if given[id] != 1 {
		t.Fatalf("Take: %d is given twice", id)
	}
	return append(past, id)
}

func bothDrop(t *testing.T, p *pool.Pool, m *model, id api.ID) {
	t.Helper()
	lives, want := p.Live(id), m.live[id] == 1
	if lives != want || p.Drop(id) != want || m.drop(id) != want {
		t.Fatalf("Drop(%d): wanted %t", id, want)
	}
}

// chosen is mostly a name that lives; else one of the past, near one of it, or none at all.
func chosen(next func(int) int, m *model, past []api.ID) api.ID {
	all := m.all()
	switch kind := next(8); {
	case kind < 5 && len(all) > 0:
		return all[next(len(all))]
	case kind < 6 && len(past) > 0:
		return past[next(len(past))]
	case kind < 7 && len(past) > 0:
		return past[next(len(past))] + 256
	}
	wrong := wrongNames()
	return wrong[next(len(wrong))]
}

// P5.2: no name is given twice till a pool has given all of its names, and each one is given.
func TestOnceTillUsedUp(t *testing.T) {
	const room = 3
	p, next := made(t, room), draw()
	given, count := make([]int, names), 0
	for {
		id, e := p.Take()
		if e != api.OK && p.Len() == 0 {
			break
		}
		if e == api.OK {
			given[id]++
			count++
		}
		if e != api.OK || next(3) == 0 {
			l := p.All()
			drop(t, p, l[next(len(l))])
		}
	}
	for id, times := range given {
		want := 0
		if id%indexes < room {
			want = 1
		}
		if times != want {
			t.Fatalf("%d is given %d times, wanted %d", id, times, want)
		}
	}
	if count != room*generations {
		t.Errorf("given: %d", count)
	}
	full(t, p)
}

// P5.1: a name's parts.
func TestIndexGen(t *testing.T) {
	for _, x := range []struct {
		id         api.ID
		index, gen int
	}{
		{0, 0, 0}, {1, 1, 0}, {255, 255, 0}, {256, 0, 1}, {257, 1, 1}, {511, 255, 1}, {512, 0, 2},
		{65535, 255, 255}, {65536, 0, 256}, {256*32768 + 128, 128, 32768}, {names - 257, 255, 65534}, {names - 256, 0, 65535}, {names - 1, 255, 65535},
	} {
		if pool.Index(x.id) != x.index || pool.Gen(x.id) != x.gen {
			t.Errorf("%d: %d %d, wanted %d %d", x.id, pool.Index(x.id), pool.Gen(x.id), x.index, x.gen)
		}
	}
	for gen := range generations {
		for index := range indexes {
			id := api.ID(gen<<8 | index)
			if pool.Index(id) != index || pool.Gen(id) != gen {
				t.Fatalf("%d: %d %d", id, pool.Index(id), pool.Gen(id))
			}
		}
	}
	for _, id := range wrongNames() {
		if pool.Index(id) != -1 || pool.Gen(id) != -1 {
			t.Errorf("%d: %d %d, wanted -1 -1", id, pool.Index(id), pool.Gen(id))
		}
	}
}

// P5.1, P1: on a nil pool ErrArg, false, nothing, 0.
func TestNil(t *testing.T) {
	var p *pool.Pool
	if id, e := p.Take(); id != 0 || e != api.ErrArg {
		t.Errorf("Take: %d %d", id, e)
	}
	for _, id := range append(wrongNames(), 0, 1, 255, 256, names-1) {
		if p.Drop(id) || p.Live(id) {
			t.Errorf("%d lives", id)
		}
	}
	if l := p.All(); len(l) != 0 || p.Len() != 0 {
		t.Errorf("All: %v, Len: %d", l, p.Len())
	}
}

// P1: no name, whatever it is, makes a call of a full pool panic, nor does one of an empty room.
func TestWrongNames(t *testing.T) {
	for _, room := range []int{0, 1, 256} {
		p := made(t, room)
		for id := range api.ID(room) {
			take(t, p, id)
		}
		before := p.All()
		for _, id := range wrongNames() {
			if p.Live(id) || p.Drop(id) {
				t.Errorf("room %d: %d lives", room, id)
			}
		}
		living(t, p, before...)
	}
}

// P2 and the rule of new memory: what is written into an answer is not seen by a later call, nor in another answer.
func TestAllIsNew(t *testing.T) {
	p := made(t, 4)
	for id := range api.ID(4) {
		take(t, p, id)
	}
	drop(t, p, 2)
	first, second := p.All(), p.All()
	for i := range first {
		first[i] = 77
	}
	// Behind the length there may be room, which nobody else may look at.
	_ = append(first, 78)
	if !slices.Equal(second, []api.ID{0, 1, 3}) {
		t.Errorf("All: %v", second)
	}
	living(t, p, 0, 1, 3)
	take(t, p, 258)
	if !slices.Equal(second, []api.ID{0, 1, 3}) {
		t.Errorf("All, kept: %v", second)
	}
	living(t, p, 0, 1, 258, 3)
}

// P2: two pools have nothing in common.
func TestTwoPools(t *testing.T) {
	a, b := made(t, 2), made(t, 2)
	take(t, a, 0)
	drop(t, a, 0)
	take(t, a, 256)
	living(t, b)
	if b.Drop(256) || b.Live(256) {
		t.Error("a name of another pool")
	}
	take(t, b, 0)
	take(t, a, 1)
	take(t, b, 1)
	full(t, a)
	living(t, a, 256, 1)
	living(t, b, 0, 1)
}
