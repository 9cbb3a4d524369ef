package table_test

import (
	"math"
	"slices"
	"testing"

	"gesso/api"
	"gesso/table"
)

// The limits as the document writes them, so that a test leans on no constant of the program.
const (
	least    = -2147483648
	greatest = 2147483647
	sets     = 32
)

// wrongSets are numbers that are no sets; those of 32 bits and more would be sets if they were cut short.
func wrongSets() []api.Set {
	return []api.Set{math.MinInt, math.MinInt + 31, -1 << 32, -1<<32 + 31, -32, -31, -2, -1, 32, 33, 63, 64, 1 << 31, 1 << 32, 1<<32 + 31, math.MaxInt}
}

// farNames are names that no pool gives, and edges of those that it gives: a table takes any number.
func farNames() []api.ID {
	return []api.ID{0, -1, -2, -256, math.MinInt, math.MaxInt, 1 << 24, 1<<24 - 1, 1 << 32, -1 << 32, 1<<32 + 1, 1, 255, 256, 257, least, greatest}
}

// wrongRows are rows that a table of n rows hasn't.
func wrongRows(n int) []int {
	return []int{-1, n, -2, -n - 1, n + 1, 2*n + 7, math.MinInt, math.MaxInt, 1 << 32, -1 << 32, 1<<32 + n, -1<<32 + n}
}

// has tells whether a set has a kind, by its bit.
func has(s, kind int) bool { return s>>kind&1 == 1 }

// pick is, of each kind of a set, p's values, written out.
func pick(p api.Parts, s int) api.Parts {
	out := api.Parts{Has: api.Set(s)}
	if has(s, 0) {
		out.Place = p.Place
	}
	if has(s, 1) {
		out.Mesh, out.Box = p.Mesh, p.Box
	}
	if has(s, 2) {
		out.Pipe, out.Material, out.Clear = p.Pipe, p.Material, p.Clear
	}
	if has(s, 3) {
		out.Layer = p.Layer
	}
	return out
}

// full has all kinds; each of its values is another one, and those of another n are others.
func full(n int) api.Parts {
	p := api.Parts{Has: 31, Mesh: (n + 3) % 256, Pipe: (n + 4) % 64, Material: (n + 5) % 256, Clear: n%2 == 1, Layer: (n + 6) % 256}
	for place := range p.Place {
		p.Place[place] = api.F(1000*n + 10 + place)
	}
	for place := range 3 {
		p.Box.Min[place], p.Box.Max[place] = api.F(-1000*n-30-place), api.F(1000*n+40+place)
	}
	return p
}

// low has all kinds, with the least values.
func low() api.Parts {
	p := api.Parts{Has: 31, Box: api.Box{Min: api.Vec{least, least, least}, Max: api.Vec{least, least, least}}}
	for place := range p.Place {
		p.Place[place] = least
	}
	return p
}

// high has all kinds, with the greatest values.
func high() api.Parts {
	p := api.Parts{Has: 31, Mesh: 255, Pipe: 63, Material: 255, Clear: true, Layer: 255}
	p.Box = api.Box{Min: api.Vec{greatest, greatest, greatest}, Max: api.Vec{greatest, greatest, greatest}}
	for place := range p.Place {
		p.Place[place] = greatest
	}
	return p
}

// changed is parts with something changed.
func changed(p api.Parts, change func(p *api.Parts)) api.Parts {
	change(&p)
	return p
}

// valueFaults change one value of a kind to one that may not be.
func valueFaults(kind int) []func(p *api.Parts) {
	switch kind {
	case 0:
		return []func(p *api.Parts){
			func(p *api.Parts) { p.Place[0] = greatest + 1 },
			func(p *api.Parts) { p.Place[11] = least - 1 },
		}
	case 1:
		return []func(p *api.Parts){
			func(p *api.Parts) { p.Mesh = -1 },
			func(p *api.Parts) { p.Mesh = 256 },
			func(p *api.Parts) { p.Box.Min[1] = p.Box.Max[1] + 1 },
			func(p *api.Parts) { p.Box.Max[2] = greatest + 1 },
		}
	case 2:
		return []func(p *api.Parts){
			func(p *api.Parts) { p.Pipe = 64 },
			func(p *api.Parts) { p.Pipe = -1 },
			func(p *api.Parts) { p.Material = 256 },
			func(p *api.Parts) { p.Material = math.MinInt },
		}
	case 3:
		return []func(p *api.Parts){
			func(p *api.Parts) { p.Layer = 256 },
			func(p *api.Parts) { p.Layer = -1 },
		}
	}
	return nil
}

// spareFaults set one value of a kind, which parts that haven't it may not have.
func spareFaults(kind int) []func(p *api.Parts) {
	switch kind {
	case 0:
		return []func(p *api.Parts){func(p *api.Parts) { p.Place[7] = 1 }}
	case 1:
		return []func(p *api.Parts){func(p *api.Parts) { p.Mesh = 1 }, func(p *api.Parts) { p.Box.Max[0] = 1 }}
	case 2:
		return []func(p *api.Parts){func(p *api.Parts) { p.Pipe = 1 }, func(p *api.Parts) { p.Material = 1 }, func(p *api.Parts) { p.Clear = true }}
	case 3:
		return []func(p *api.Parts){func(p *api.Parts) { p.Layer = 1 }}
	}
	return nil
}

// unfit are parts that a table of a set doesn't take: those that may not be, and those of all other sets.
func unfit(s int) (l []api.Parts) {
	for kind := range 5 {
		faults := spareFaults(kind)
		if has(s, kind) {
			faults = valueFaults(kind)
		}
		for _, change := range faults {
			l = append(l, changed(pick(full(1), s), change))
		}
	}
	for _, wrong := range wrongSets() {
		l = append(l, changed(pick(full(1), s), func(p *api.Parts) { p.Has = wrong }))
	}
	for other := range sets {
		if other != s {
			l = append(l, pick(full(2), other), api.Parts{Has: api.Set(other)})
		}
	}
	return append(l, changed(pick(full(1), s), func(p *api.Parts) { p.Has |= 1 << 32 }))
}

// line is a row that is kept by hand.
type line struct {
	id api.ID
	p  api.Parts
}

// model is a table by the document's words.
type model []line

func (m model) find(id api.ID) int {
	return slices.IndexFunc(m, func(x line) bool { return x.id == id })
}

func (m model) ids() (l []api.ID) {
	for _, x := range m {
		l = append(l, x.id)
	}
	return l
}

// made is an empty table of a set.
func made(t *testing.T, s int) *table.Table {
	t.Helper()
	x, e := table.New(api.Set(s))
	if x == nil || e != api.OK {
		t.Fatalf("New(%d): %v %d", s, x, e)
	}
	return x
}

// filled is a table of a set with these names, whose parts hang on their places, and the same by hand.
func filled(t *testing.T, s int, ids ...api.ID) (*table.Table, model) {
	t.Helper()
	x, m := made(t, s), model{}
	for n, id := range ids {
		m = add(t, x, m, id, pick(full(n), s))
	}
	return x, m
}

// add adds a row to both; the name must be a new one.
func add(t *testing.T, x *table.Table, m model, id api.ID, p api.Parts) model {
	t.Helper()
	if row, e := x.Add(id, p); row != len(m) || e != api.OK {
		t.Fatalf("Add(%d): %d %d, wanted %d", id, row, e, len(m))
	}
	return append(slices.Clone(m), line{id, p})
}

// put puts parts into a row of both, which must be there.
func put(t *testing.T, x *table.Table, m model, row int, p api.Parts) model {
	t.Helper()
	if e := x.Put(row, p); e != api.OK {
		t.Fatalf("Put(%d): %d", row, e)
	}
	m = slices.Clone(m)
	m[row].p = p
	return m
}

// cut cuts a row of both, which must be there.
func cut(t *testing.T, x *table.Table, m model, row int) model {
	t.Helper()
	m, last := slices.Clone(m), len(m)-1
	want := api.ID(-1)
	if row != last {
		want = m[last].id
	}
	if id, e := x.Cut(row); id != want || e != api.OK {
		t.Fatalf("Cut(%d): %d %d, wanted %d", row, id, e, want)
	}
	m[row] = m[last]
	return m[:last]
}

// same asks a table for all that it tells, and holds it against what is kept by hand.
func same(t *testing.T, x *table.Table, s int, m model) {
	t.Helper()
	if x.Set() != api.Set(s) || x.Len() != len(m) {
		t.Fatalf("Set: %d, Len: %d, wanted %d %d", x.Set(), x.Len(), s, len(m))
	}
	if l := x.IDs(); !slices.Equal(l, m.ids()) {
		t.Fatalf("IDs: %v, wanted %v", l, m.ids())
	}
	for row, want := range m {
		if id, p, ok := x.Row(row); id != want.id || p != want.p || !ok {
			t.Fatalf("Row(%d): %d %v %t, wanted %v", row, id, p, ok, want)
		}
		if n := x.Find(want.id); n != row {
			t.Fatalf("Find(%d): %d, wanted %d", want.id, n, row)
		}
	}
	for _, row := range wrongRows(len(m)) {
		if id, p, ok := x.Row(row); id != 0 || p != (api.Parts{}) || ok {
			t.Fatalf("Row(%d): %d %v %t", row, id, p, ok)
		}
	}
	for _, id := range farNames() {
		if n := x.Find(id); n != m.find(id) {
			t.Fatalf("Find(%d): %d, wanted %d", id, n, m.find(id))
		}
	}
}

// draw gives numbers by a fixed rule.
func draw() func(below int) int {
	state := uint32(2463534242)
	return func(below int) int {
		state ^= state << 13
		state ^= state >> 17
		state ^= state << 5
		return int(state>>1) % below
	}
}

// P7.1: New of each set is empty, and a name that is nowhere isn't found.
func TestNew(t *testing.T) {
	for s := range sets {
		same(t, made(t, s), s, nil)
	}
}

// P7.1: where a set may not be, New answers ErrArg and no table.
func TestNewWrong(t *testing.T) {
	for _, s := range wrongSets() {
		if x, e := table.New(s); x != nil || e != api.ErrArg {
			t.Errorf("New(%d): %v %d", s, x, e)
		}
	}
}

// P7.1: a table of each set gives back all values of its kinds, at the limits too.
func TestValues(t *testing.T) {
	for s := range sets {
		x, m := filled(t, s, 7, 8, 9)
		m = add(t, x, m, 10, pick(low(), s))
		m = add(t, x, m, 11, pick(high(), s))
		m = add(t, x, m, 12, api.Parts{Has: api.Set(s)})
		same(t, x, s, m)
		for row, p := range []api.Parts{high(), low(), full(9), full(8), {}, full(7)} {
			m = put(t, x, m, row, pick(p, s))
			same(t, x, s, m)
		}
	}
}

// P7.1: each value alone is kept, and put, in its own row alone.
func TestEachValue(t *testing.T) {
	changes := []func(p *api.Parts){
		func(p *api.Parts) { p.Mesh = 201 },
		func(p *api.Parts) { p.Pipe = 61 },
		func(p *api.Parts) { p.Material = 202 },
		func(p *api.Parts) { p.Clear = !p.Clear },
		func(p *api.Parts) { p.Layer = 203 },
	}
	for place := range 12 {
		changes = append(changes, func(p *api.Parts) { p.Place[place] = -5 })
	}
	for place := range 3 {
		changes = append(changes, func(p *api.Parts) { p.Box.Min[place] = -700000 }, func(p *api.Parts) { p.Box.Max[place] = 800000 })
	}
	x, m := filled(t, 31, 1, 2, 3)
	for n, change := range changes {
		row := n % 3
		m = put(t, x, m, row, changed(m[row].p, change))
		same(t, x, 31, m)
	}
}

// P7.1: names are any numbers.
func TestNames(t *testing.T) {
	for _, s := range []int{0, 1, 16, 31} {
		x, m := made(t, s), model{}
		for n, id := range farNames() {
			m = add(t, x, m, id, pick(full(n), s))
			same(t, x, s, m)
		}
		for _, id := range farNames() {
			if row, e := x.Add(id, pick(full(3), s)); row != 0 || e != api.ErrTwice {
				t.Errorf("Add(%d): %d %d", id, row, e)
			}
		}
		same(t, x, s, m)
		for n := 0; len(m) > 0; n++ {
			m = cut(t, x, m, n*5%len(m))
			same(t, x, s, m)
		}
	}
}

// P7.1: Cut of each row of tables of 1 to 5 rows: the last one takes its place, and all its values.
func TestCut(t *testing.T) {
	for s := range sets {
		for n := 1; n <= 5; n++ {
			for row := range n {
				x, m := filled(t, s, []api.ID{20, 30, 10, 50, 40}[:n]...)
				gone := m[row].id
				m = cut(t, x, m, row)
				same(t, x, s, m)
				if x.Find(gone) != -1 {
					t.Errorf("Find(%d): %d", gone, x.Find(gone))
				}
			}
		}
	}
}

// P7.1: the document's words in numbers: the first one, one in the middle, and the last one go.
func TestCutExample(t *testing.T) {
	x, _ := filled(t, 8, 10, 11, 12, 13, 14)
	for _, step := range []struct {
		row  int
		want api.ID
		left []api.ID
	}{
		{0, 14, []api.ID{14, 11, 12, 13}},
		{1, 13, []api.ID{14, 13, 12}},
		{2, -1, []api.ID{14, 13}},
		{0, 13, []api.ID{13}},
		{0, -1, nil},
	} {
		if id, e := x.Cut(step.row); id != step.want || e != api.OK || !slices.Equal(x.IDs(), step.left) {
			t.Errorf("Cut(%d): %d %d %v", step.row, id, e, x.IDs())
		}
	}
}

// P7.1: a name of -1 that takes a row's place is told, and is there.
func TestCutMovesMinusOne(t *testing.T) {
	x, m := filled(t, 3, 5, 6, -1)
	m = cut(t, x, m, 0)
	same(t, x, 3, m)
	if x.Find(-1) != 0 || x.Find(5) != -1 {
		t.Errorf("Find: %d %d", x.Find(-1), x.Find(5))
	}
}

// P7.2: a name that was cut may be added again, behind all, with its new parts alone.
func TestAddAgain(t *testing.T) {
	for s := range sets {
		x, m := filled(t, s, 4, 5, 6)
		for n, row := range []int{0, 1, 2, 0, 2, 1} {
			id := m[row].id
			m = cut(t, x, m, row)
			m = add(t, x, m, id, pick(full(50+n), s))
			same(t, x, s, m)
		}
		for len(m) > 0 {
			m = cut(t, x, m, 0)
		}
		same(t, x, s, m)
		m = add(t, x, m, 5, api.Parts{Has: api.Set(s)})
		same(t, x, s, m)
	}
}

// P7.1: parts that may not be, or have another set, are ErrArg, ahead of ErrTwice and ErrNone; nothing is changed then.
func TestUnfitParts(t *testing.T) {
	for s := range sets {
		for _, ids := range [][]api.ID{nil, {3}, {3, 1, 2}} {
			x, m := filled(t, s, ids...)
			for _, p := range unfit(s) {
				for _, id := range append([]api.ID{3, 77}, farNames()...) {
					if row, e := x.Add(id, p); row != 0 || e != api.ErrArg {
						t.Fatalf("set %d, Add(%d, %v): %d %d", s, id, p, row, e)
					}
				}
				for _, row := range append(wrongRows(len(m)), 0, 1, 2) {
					if e := x.Put(row, p); e != api.ErrArg {
						t.Fatalf("set %d, Put(%d, %v): %d", s, row, p, e)
					}
				}
			}
			same(t, x, s, m)
		}
	}
}

// P7.1: a name that is there already is ErrTwice, whatever its parts, and keeps those that it has.
func TestAddTwice(t *testing.T) {
	for s := range sets {
		x, m := filled(t, s, 3, 0, -9)
		for _, known := range m {
			for _, p := range []api.Parts{known.p, pick(full(99), s), {Has: api.Set(s)}} {
				if row, e := x.Add(known.id, p); row != 0 || e != api.ErrTwice {
					t.Errorf("Add(%d): %d %d", known.id, row, e)
				}
				same(t, x, s, m)
			}
		}
	}
}

// P7.1: a row that isn't there is ErrNone of Put and Cut, with -1 of Cut; nothing is changed then.
func TestWrongRows(t *testing.T) {
	for s := range sets {
		for n := range 4 {
			x, m := filled(t, s, []api.ID{8, 6, 7}[:n]...)
			for _, row := range wrongRows(n) {
				if e := x.Put(row, pick(full(9), s)); e != api.ErrNone {
					t.Errorf("Put(%d): %d", row, e)
				}
				if id, e := x.Cut(row); id != -1 || e != api.ErrNone {
					t.Errorf("Cut(%d): %d %d", row, id, e)
				}
			}
			same(t, x, s, m)
		}
	}
	// A row that was there, and went, is none, either.
	x, m := filled(t, 31, 8, 6)
	m = cut(t, x, m, 0)
	if id, e := x.Cut(1); id != -1 || e != api.ErrNone || x.Put(1, full(9)) != api.ErrNone {
		t.Errorf("Cut(1): %d %d", id, e)
	}
	same(t, x, 31, m)
}

// P7.1, P7.2: Add, Put and Cut in many orders, each of them held against rows that are kept by hand.
func TestManyOrders(t *testing.T) {
	next := draw()
	for s := range sets {
		for adds := 1; adds <= 3; adds++ {
			x, m := made(t, s), model{}
			for n := range 300 {
				m = step(t, next, x, m, s, n, adds)
				same(t, x, s, m)
			}
		}
	}
}

// step does one of the calls, at a name, or a row, that may be there or not.
func step(t *testing.T, next func(int) int, x *table.Table, m model, s, n, adds int) model {
	t.Helper()
	p, row := pick(full(n), s), next(len(m)+1)
	switch kind := next(6); {
	case kind < adds:
		return tryAdd(t, x, m, api.ID(next(40)-20), p)
	case kind < 4 && row < len(m):
		return put(t, x, m, row, p)
	case row < len(m):
		return cut(t, x, m, row)
	}
	if id, e := x.Cut(row); id != -1 || e != api.ErrNone || x.Put(row, p) != api.ErrNone {
		t.Fatalf("Cut(%d): %d %d", row, id, e)
	}
	return m
}

// tryAdd adds a name that may be there already.
func tryAdd(t *testing.T, x *table.Table, m model, id api.ID, p api.Parts) model {
	t.Helper()
	if m.find(id) < 0 {
		return add(t, x, m, id, p)
	}
	if row, e := x.Add(id, p); row != 0 || e != api.ErrTwice {
		t.Fatalf("Add(%d): %d %d", id, row, e)
	}
	return m
}

// P7.2: of a table that is filled far beyond what a pool gives, and emptied again, each name is there once till it is cut.
func TestLongTable(t *testing.T) {
	const rows = 1000
	x, m, next := made(t, 31), model{}, draw()
	for n := range rows {
		m = add(t, x, m, api.ID(n*7919%rows), full(n))
	}
	same(t, x, 31, m)
	for n := range rows {
		m = put(t, x, m, next(rows), full(rows+n))
	}
	same(t, x, 31, m)
	for len(m) > 0 {
		gone := next(len(m))
		id := m[gone].id
		m = cut(t, x, m, gone)
		if x.Find(id) != -1 || x.Len() != len(m) {
			t.Fatalf("Find(%d): %d, Len: %d", id, x.Find(id), x.Len())
		}
		if len(m)%100 == 0 {
			same(t, x, 31, m)
		}
	}
}

// P7.1, P1: on a nil table ErrArg, 0, nothing, -1 of Find and Cut's name.
func TestNil(t *testing.T) {
	var x *table.Table
	if x.Set() != 0 || x.Len() != 0 || len(x.IDs()) != 0 {
		t.Errorf("Set: %d, Len: %d, IDs: %v", x.Set(), x.Len(), x.IDs())
	}
	for _, id := range farNames() {
		if row, e := x.Add(id, api.Parts{}); row != 0 || e != api.ErrArg {
			t.Errorf("Add(%d): %d %d", id, row, e)
		}
		if x.Find(id) != -1 {
			t.Errorf("Find(%d): %d", id, x.Find(id))
		}
	}
	for _, p := range append(unfit(0), api.Parts{}, full(1)) {
		if row, e := x.Add(0, p); row != 0 || e != api.ErrArg || x.Put(0, p) != api.ErrArg {
			t.Errorf("Add: %d %d", row, e)
		}
	}
	for _, row := range append(wrongRows(0), 0, 1) {
		if e := x.Put(row, api.Parts{}); e != api.ErrArg {
			t.Errorf("Put(%d): %d", row, e)
		}
		if id, e := x.Cut(row); id != -1 || e != api.ErrArg {
			t.Errorf("Cut(%d): %d %d", row, id, e)
		}
		if id, p, ok := x.Row(row); id != 0 || p != (api.Parts{}) || ok {
			t.Errorf("Row(%d): %d %v %t", row, id, p, ok)
		}
	}
}

// P2 and the rule of new memory: what is written into an answer is not seen by a later call, nor in another answer.
func TestIDsAreNew(t *testing.T) {
	x, m := filled(t, 31, 4, 5, 6)
	m = cut(t, x, m, 1)
	first, second := x.IDs(), x.IDs()
	for i := range first {
		first[i] = 77
	}
	// Behind the length there may be room, which nobody else may look at.
	_ = append(first, 78)
	same(t, x, 31, m)
	m = add(t, x, m, 9, full(9))
	m = cut(t, x, m, 0)
	same(t, x, 31, m)
	if !slices.Equal(second, []api.ID{4, 6}) {
		t.Errorf("IDs, kept: %v", second)
	}
}

// P2: two tables, of one set too, have nothing in common.
func TestTwoTables(t *testing.T) {
	x, m := filled(t, 31, 4, 5, 6)
	y, n := filled(t, 31, 6, 4)
	m = cut(t, x, m, 0)
	n = put(t, y, n, 1, full(70))
	m = put(t, x, m, 1, high())
	n = add(t, y, n, 5, low())
	same(t, x, 31, m)
	same(t, y, 31, n)
}
