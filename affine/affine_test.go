package affine_test

import (
	"math"
	"math/big"
	"slices"
	"testing"

	"gesso/affine"
	"gesso/api"
)

// The limits as the document writes them, so that a test leans on no constant of the program.
const (
	least    = -2147483648
	greatest = 2147483647
	one      = 65536
)

// wrong are numbers that may not be.
func wrong() []api.F {
	return []api.F{math.MinInt, -1 << 48, -1 << 32, least - one, least - 1, greatest + 1, greatest + one, 1 << 32, 1 << 48, math.MaxInt}
}

// edges are numbers that may be, at which something turns.
func edges() []api.F {
	return []api.F{least, least + 1, -200 * one, -one - 1, -one, -one + 1, -3, -1, 0, 1, 3, one - 1, one, one + 1, 200 * one, greatest - 1, greatest}
}

// same is written out, so that no test of Same leans on Same.
func same() api.Mat {
	return api.Mat{
		one, 0, 0, 0,
		0, one, 0, 0,
		0, 0, one, 0,
	}
}

// turns are the quarters round the three axes, written out.
func turns() [3]api.Mat {
	return [3]api.Mat{
		{
			one, 0, 0, 0,
			0, 0, -one, 0,
			0, one, 0, 0,
		},
		{
			0, 0, one, 0,
			0, one, 0, 0,
			-one, 0, 0, 0,
		},
		{
			0, -one, 0, 0,
			one, 0, 0, 0,
			0, 0, one, 0,
		},
	}
}

// numbered has another number at each place, so that no two can be taken for each other.
func numbered() api.Mat {
	return api.Mat{
		2 * one, -3 * one, 5*one + 1, 7,
		11, 13 * one, -17, 19 * one,
		one / 23, -29 * one, 31 * one, -37 * one,
	}
}

// other is one more of that kind.
func other() api.Mat {
	return api.Mat{
		-one / 3, 6 * one, 10, -14 * one,
		22 * one, 26, -34 * one, 38,
		46, one / 7, -58 * one, 62 * one,
	}
}

// draw gives numbers by a fixed rule.
func draw() func() int32 {
	state := uint32(2463534242)
	return func() int32 {
		state ^= state << 13
		state ^= state >> 17
		state ^= state << 5
		return int32(state)
	}
}

// dealt are so many matrices and vectors of numbers that may be, great and small ones.
func dealt(n int) ([]api.Mat, []api.Vec) {
	next, turn := draw(), 0
	number := func() api.F {
		turn++
		return api.F(next() >> (turn % 31))
	}
	return filled(n, number)
}

// whole are so many matrices and vectors of whole numbers from -most to most.
func whole(n int, most int32) ([]api.Mat, []api.Vec) {
	next := draw()
	return filled(n, func() api.F {
		return api.F(next()%(most+1)) * one
	})
}

func filled(n int, number func() api.F) ([]api.Mat, []api.Vec) {
	mats, vecs := make([]api.Mat, n), make([]api.Vec, n)
	for i := range n {
		for place := range mats[i] {
			mats[i][place] = number()
		}
		for place := range vecs[i] {
			vecs[i][place] = number()
		}
	}
	return mats, vecs
}

func wide(x api.F) *big.Int { return big.NewInt(int64(x)) }

// told is what a call must answer if x came out of arguments that may be.
func told(x *big.Int) (api.F, api.Errno) {
	if x.Cmp(big.NewInt(least)) < 0 || x.Cmp(big.NewInt(greatest)) > 0 {
		return 0, api.ErrOver
	}
	return api.F(x.Int64()), api.OK
}

// wantAdded is the products, each dropped downwards, and last, added in wide numbers.
func wantAdded(a, b [3]api.F, last api.F) (api.F, api.Errno) {
	sum := wide(last)
	for i := range a {
		p := new(big.Int).Mul(wide(a[i]), wide(b[i]))
		p.Div(p, big.NewInt(one)) // Euclid's: downwards
		if _, e := told(p); e != api.OK {
			return 0, e
		}
		sum.Add(sum, p)
	}
	return told(sum)
}

func wantApplied(m api.Mat, v api.Vec) (api.Vec, api.Errno) {
	var out api.Vec
	for r := 0; r < 3; r++ {
		x, e := wantAdded([3]api.F{m[4*r], m[4*r+1], m[4*r+2]}, v, m[4*r+3])
		if e != api.OK {
			return api.Vec{}, e
		}
		out[r] = x
	}
	return out, api.OK
}

func wantProduct(a, b api.Mat) (api.Mat, api.Errno) {
	var out api.Mat
	for r := 0; r < 3; r++ {
		last := [4]api.F{0, 0, 0, a[4*r+3]}
		for k := 0; k < 4; k++ {
			x, e := wantAdded([3]api.F{a[4*r], a[4*r+1], a[4*r+2]}, [3]api.F{b[k], b[4+k], b[8+k]}, last[k])
			if e != api.OK {
				return api.Mat{}, e
			}
			out[4*r+k] = x
		}
	}
	return out, api.OK
}

// hold holds an answer against the one that is wanted.
func hold[T comparable](t *testing.T, got T, gotErr api.Errno, want T, wantErr api.Errno, what ...any) {
	t.Helper()
	if got != want || gotErr != wantErr {
		t.Fatalf("%v: %v %d, want %v %d", what, got, gotErr, want, wantErr)
	}
}

// P3.1: Right, of none, of one and of more, at each place.
func TestRight(t *testing.T) {
	if !affine.Right() || !affine.Right(nil...) {
		t.Error("no matrix: want true")
	}
	right := []api.Mat{numbered(), other(), {}}
	for place := range 12 {
		for _, x := range edges() {
			m := numbered()
			m[place] = x
			if !affine.Right(m) || !affine.Right(right[1], m, right[2]) {
				t.Errorf("%v: want true", m)
			}
		}
		for _, x := range wrong() {
			for i := range right {
				l := slices.Clone(right)
				l[i][place] = x
				if affine.Right(l...) || affine.Right(l[i]) {
					t.Errorf("%v: want false", l)
				}
			}
		}
	}
	if long := make([]api.Mat, 3000); !affine.Right(long...) {
		t.Error("3000 matrices of noughts: want true")
	}
}

// P3.1: Same.
func TestSame(t *testing.T) {
	if got := affine.Same(); got != same() {
		t.Errorf("%v", got)
	}
}

// P3.1: Move and Scale, of any vectors.
func TestMoveScale(t *testing.T) {
	all := append(edges(), wrong()...)
	for i, x := range all {
		y, z := all[(i+5)%len(all)], all[(i+11)%len(all)]
		move := api.Mat{
			one, 0, 0, x,
			0, one, 0, y,
			0, 0, one, z,
		}
		if got := affine.Move(api.Vec{x, y, z}); got != move {
			t.Errorf("Move: %v, want %v", got, move)
		}
		scale := api.Mat{
			x, 0, 0, 0,
			0, y, 0, 0,
			0, 0, z, 0,
		}
		if got := affine.Scale(api.Vec{x, y, z}); got != scale {
			t.Errorf("Scale: %v, want %v", got, scale)
		}
	}
	if affine.Move(api.Vec{}) != same() || affine.Scale(api.Vec{}) != (api.Mat{}) {
		t.Errorf("of noughts: %v %v", affine.Move(api.Vec{}), affine.Scale(api.Vec{}))
	}
}

// P3.1: Turn, of any number by what is left over.
func TestTurn(t *testing.T) {
	want := turns()
	axes := []int{math.MinInt, math.MinInt + 1, math.MinInt + 2, least - 1, least, greatest, greatest + 1, math.MaxInt - 2, math.MaxInt - 1, math.MaxInt}
	for axis := -10; axis <= 10; axis++ {
		axes = append(axes, axis)
	}
	for _, axis := range axes {
		left := new(big.Int).Mod(big.NewInt(int64(axis)), big.NewInt(3)).Int64() // Euclid's: not below 0
		if got := affine.Turn(axis); got != want[left] {
			t.Errorf("%d: %v, want %v", axis, got, want[left])
		}
	}
}

// P3.1: Turn applied: round each axis, and four quarters are the whole.
func TestTurnApplied(t *testing.T) {
	v := api.Vec{2 * one, 3 * one, 7 * one}
	for axis, want := range []api.Vec{{2 * one, -7 * one, 3 * one}, {7 * one, 3 * one, -2 * one}, {-3 * one, 2 * one, 7 * one}} {
		got, e := affine.Apply(affine.Turn(axis), v)
		hold(t, got, e, want, api.OK, "Turn", axis)
		q := affine.Turn(axis)
		whole, e := affine.Mul(q, q, q, q)
		hold(t, whole, e, same(), api.OK, "four quarters", axis)
	}
}

// P3.1: Apply by example.
func TestApplyExamples(t *testing.T) {
	for i, c := range []struct {
		row  [4]api.F
		v    api.Vec
		want api.F
		e    api.Errno
	}{
		{[4]api.F{}, api.Vec{5, 6, 7}, 0, api.OK},
		{[4]api.F{2 * one, 3 * one, 5 * one, 7 * one}, api.Vec{11 * one, 13 * one, 17 * one}, 153 * one, api.OK},
		{[4]api.F{-1, -1, -1, 0}, api.Vec{1, 1, 1}, -3, api.OK}, // each product is dropped, not their sum
		{[4]api.F{one / 2, one / 2, 0, 0}, api.Vec{1, 1, 0}, 0, api.OK},
		{[4]api.F{0, 0, 0, least}, api.Vec{1, 1, 1}, least, api.OK},
		{[4]api.F{0, 0, 0, greatest}, api.Vec{1, 1, 1}, greatest, api.OK},
		{[4]api.F{one, 0, 0, greatest}, api.Vec{1, 0, 0}, 0, api.ErrOver},
		{[4]api.F{0, 0, one, least}, api.Vec{0, 0, -1}, 0, api.ErrOver},
		{[4]api.F{one, one, 0, -3}, api.Vec{greatest, 2, 0}, greatest - 1, api.OK}, // only the end counts, the last one with it
		{[4]api.F{one, one, one, greatest}, api.Vec{least, least, 0}, 0, api.ErrOver},
		{[4]api.F{one, one, one, greatest}, api.Vec{least, least, 1}, least, api.OK},
		{[4]api.F{one, one, one, greatest}, api.Vec{least, -2, 1}, -2, api.OK},
		{[4]api.F{one, one, one, 0}, api.Vec{greatest, greatest, least}, greatest - 1, api.OK},
		{[4]api.F{200 * one, -200 * one, 0, 0}, api.Vec{200 * one, 200 * one, 0}, 0, api.ErrOver}, // the products run over, their sum would not
		{[4]api.F{0, -one, 0, -1}, api.Vec{0, least, 0}, 0, api.ErrOver},
		{[4]api.F{-one, 0, 0, least}, api.Vec{greatest, 0, 0}, 0, api.ErrOver},
		{[4]api.F{least, least, least, least}, api.Vec{least, least, least}, 0, api.ErrOver},
	} {
		for row := range 3 {
			var m api.Mat
			var want api.Vec
			copy(m[4*row:], c.row[:])
			want[row] = c.want
			got, e := affine.Apply(m, c.v)
			hold(t, got, e, want, c.e, i, row)
		}
	}
	got, e := affine.Apply(numbered(), api.Vec{one, 2 * one, one})
	hold(t, got, e, api.Vec{one + 8, 45*one - 6, -64*one + 2849}, api.OK, "numbered")
}

// P3.1: of none Same, of one it, of more from the first one on.
func TestMulOfAnyNumber(t *testing.T) {
	got, e := affine.Mul()
	hold(t, got, e, same(), api.OK, "none")
	got, e = affine.Mul([]api.Mat{}...)
	hold(t, got, e, same(), api.OK, "an empty list")
	mats, _ := dealt(50)
	for _, m := range append(mats, numbered(), other(), api.Mat{}, api.Mat{least, greatest, 3: least, 11: greatest}) {
		got, e := affine.Mul(m)
		hold(t, got, e, m, api.OK, "one")
	}
	move, turn := affine.Move(api.Vec{one, 2 * one, 3 * one}), turns()[2]
	got, e = affine.Mul(move, turn)
	hold(t, got, e, api.Mat{0, -one, 0, one, one, 0, 0, 2 * one, 0, 0, one, 3 * one}, api.OK, "turned, then moved")
	got, e = affine.Mul(turn, move)
	hold(t, got, e, api.Mat{0, -one, 0, -2 * one, one, 0, 0, one, 0, 0, one, 3 * one}, api.OK, "moved, then turned")
	got, e = affine.Mul(move, turn, move)
	hold(t, got, e, api.Mat{0, -one, 0, -one, one, 0, 0, 3 * one, 0, 0, one, 6 * one}, api.OK, "moved, turned, moved")
	long := slices.Repeat([]api.Mat{affine.Move(api.Vec{1, -2, 3})}, 3000) // no bound on how many
	got, e = affine.Mul(long...)
	hold(t, got, e, affine.Move(api.Vec{3000, -6000, 9000}), api.OK, "3000")
}

// P3.1: of three, it is the first two that are multiplied first.
func TestMulGoesFromTheFirst(t *testing.T) {
	half, twice, third := scaled(one/2), scaled(2*one), scaled(1)
	got, e := affine.Mul(third, half, twice)
	hold(t, got, e, api.Mat{}, api.OK, "dropped, then doubled")
	got, e = affine.Mul(twice, half, third)
	hold(t, got, e, third, api.OK, "doubled, then halved")
	got, e = affine.Mul(twice, third, half)
	hold(t, got, e, third, api.OK, "doubled, and then half of it")
	great := scaled(200 * one)
	got, e = affine.Mul(great, great, api.Mat{})
	hold(t, got, e, api.Mat{}, api.ErrOver, "runs over, and then nought")
	got, e = affine.Mul(api.Mat{}, great, great)
	hold(t, got, e, api.Mat{}, api.OK, "nought, and then no more")
	got, e = affine.Mul(half, half, great, great)
	hold(t, got, e, scaled(10000*one), api.OK, "small first")
	got, e = affine.Mul(great, half, half, great, great)
	hold(t, got, e, api.Mat{}, api.ErrOver, "the last one runs over")
}

func scaled(k api.F) api.Mat { return affine.Scale(api.Vec{k, k, k}) }

// P3.1: Mul of two by example, each in each row and at each place.
func TestMulExamples(t *testing.T) {
	for i, c := range []struct {
		row    [3]api.F
		column [3]api.F
		want   api.F
		e      api.Errno
	}{
		{[3]api.F{2 * one, 3 * one, 5 * one}, [3]api.F{11 * one, 13 * one, 17 * one}, 146 * one, api.OK},
		{[3]api.F{-1, -1, -1}, [3]api.F{1, 1, 1}, -3, api.OK},
		{[3]api.F{one / 2, one / 2, 0}, [3]api.F{1, 1, 0}, 0, api.OK},
		{[3]api.F{one, one, one}, [3]api.F{greatest, greatest, least}, greatest - 1, api.OK}, // only the end counts
		{[3]api.F{least, one, 0}, [3]api.F{one, -1, 0}, 0, api.ErrOver},
		{[3]api.F{greatest, one, 0}, [3]api.F{one, 1, 0}, 0, api.ErrOver},
		{[3]api.F{one, 0, least}, [3]api.F{greatest, 0, one}, -1, api.OK},
		{[3]api.F{200 * one, -200 * one, 0}, [3]api.F{200 * one, 200 * one, 0}, 0, api.ErrOver},
		{[3]api.F{0, least, 0}, [3]api.F{0, -one, 0}, 0, api.ErrOver},
		{[3]api.F{0, 0, least}, [3]api.F{0, 0, least}, 0, api.ErrOver},
	} {
		for row := range 3 {
			for place := range 4 {
				var a, b, want api.Mat
				copy(a[4*row:], c.row[:])
				b[place], b[4+place], b[8+place] = c.column[0], c.column[1], c.column[2]
				want[4*row+place] = c.want
				got, e := affine.Mul(a, b)
				hold(t, got, e, want, c.e, i, row, place)
			}
		}
	}
}

// P3.1: at place 3 the first one's own number there is added along with the products, and nowhere else.
func TestMulMoves(t *testing.T) {
	for row := range 3 {
		for i, c := range []struct {
			column [3]api.F
			own    api.F
			want   api.F
			e      api.Errno
		}{
			{[3]api.F{1, 2, 3}, 4, 10, api.OK},
			{[3]api.F{}, least, least, api.OK},
			{[3]api.F{}, greatest, greatest, api.OK},
			{[3]api.F{greatest, 2, 0}, -3, greatest - 1, api.OK}, // the products alone would run over
			{[3]api.F{least, -2, 0}, greatest, -3, api.OK},
			{[3]api.F{greatest, 0, 0}, 1, 0, api.ErrOver},
			{[3]api.F{0, 0, least}, -1, 0, api.ErrOver},
		} {
			var a, b, want api.Mat
			a[4*row], a[4*row+1], a[4*row+2], a[4*row+3] = one, one, one, c.own
			b[3], b[7], b[11] = c.column[0], c.column[1], c.column[2]
			want[4*row+3] = c.want
			got, e := affine.Mul(a, b)
			hold(t, got, e, want, c.e, i, row)
		}
	}
}

// P3.1: Apply and Mul of two at all pairs of the edges, at each place.
func TestPlacesAtEdges(t *testing.T) {
	for _, x := range edges() {
		for _, y := range edges() {
			for place := range 12 {
				m, v := numbered(), api.Vec{one, -one, 3}
				m[place], v[place%3] = x, y
				sameAsWide(t, m, other(), v)
				last := other()
				last[place] = y
				sameAsWide(t, m, last, v)
				first := api.Mat{}
				first[place], first[(place+4)%12] = x, y
				sameAsWide(t, first, last, v)
				sameAsWide(t, last, first, v)
			}
		}
	}
}

// P3.1: Apply and Mul of great and small numbers.
func TestDealtNumbers(t *testing.T) {
	mats, vecs := dealt(300)
	for i := range mats[1:] {
		sameAsWide(t, mats[i], mats[i+1], vecs[i])
		small := mats[i]
		for place := range small {
			small[place] >>= 12
		}
		sameAsWide(t, small, small, vecs[i])
		sameAsWide(t, small, mats[i+1], vecs[i])
	}
}

// sameAsWide holds what two matrices and a vector make against wide numbers.
func sameAsWide(t *testing.T, a, b api.Mat, v api.Vec) {
	t.Helper()
	got, e := affine.Apply(a, v)
	want, wantErr := wantApplied(a, v)
	hold(t, got, e, want, wantErr, "Apply", a, v)
	product, e := affine.Mul(a, b)
	wantM, wantErr := wantProduct(a, b)
	hold(t, product, e, wantM, wantErr, "Mul", a, b)
}

// P3.1: ErrArg of a number that may not be, at each place of a matrix, in the first and in a later one.
func TestWrongMatrices(t *testing.T) {
	great := scaled(greatest)
	for _, l := range [][]api.Mat{{{}}, {numbered(), other()}, {same(), {}, numbered(), {}}, {{}, {}, {}}, {great, great, great}} {
		for i := range l {
			for place := range 12 {
				for _, x := range wrong() {
					bad := slices.Clone(l)
					bad[i][place] = x
					got, e := affine.Mul(bad...)
					hold(t, got, e, api.Mat{}, api.ErrArg, "Mul", bad)
					v, e := affine.Apply(bad[i], api.Vec{})
					hold(t, v, e, api.Vec{}, api.ErrArg, "Apply", bad[i])
					v, e = affine.Apply(bad[i], api.Vec{greatest, greatest, greatest})
					hold(t, v, e, api.Vec{}, api.ErrArg, "Apply", bad[i])
				}
			}
		}
	}
}

// P3.1: ErrArg of a number that may not be, at each place of a vector, where a row runs over too.
func TestWrongVectors(t *testing.T) {
	for _, m := range []api.Mat{{}, same(), numbered(), scaled(greatest)} {
		for place := range 3 {
			for _, x := range wrong() {
				for _, bad := range []api.Vec{{}, {1, 2, 3}, {greatest, greatest, greatest}} {
					bad[place] = x
					v, e := affine.Apply(m, bad)
					hold(t, v, e, api.Vec{}, api.ErrArg, m, bad)
				}
			}
		}
	}
}

// P3.1, rule 2: where one row runs over, nothing is answered of the others.
func TestNothingBesideErrOver(t *testing.T) {
	for row := range 3 {
		m := numbered()
		m[4*row+3] = greatest
		m[4*row], m[4*row+1], m[4*row+2] = one, 0, 0
		v, e := affine.Apply(m, api.Vec{1, 1, 1})
		hold(t, v, e, api.Vec{}, api.ErrOver, "Apply", m)
		got, e := affine.Mul(m, affine.Move(api.Vec{1, 1, 1}))
		hold(t, got, e, api.Mat{}, api.ErrOver, "Mul", m)
		got, e = affine.Mul(m, affine.Move(api.Vec{1, 1, 1}), same())
		hold(t, got, e, api.Mat{}, api.ErrOver, "Mul of three", m)
	}
}

// P3.2: Same, ahead or behind, leaves a matrix, and a vector.
func TestSameLeaves(t *testing.T) {
	mats, vecs := dealt(200)
	for place := range 12 {
		for _, x := range edges() {
			m, v := numbered(), api.Vec{5, -6, 7}
			m[place], v[place%3] = x, x
			mats, vecs = append(mats, m), append(vecs, v)
		}
	}
	s := affine.Same()
	for i, m := range mats {
		for _, l := range [][]api.Mat{{s, m}, {m, s}, {s, m, s}, {s, s, m}, {m, s, s}} {
			got, e := affine.Mul(l...)
			hold(t, got, e, m, api.OK, l)
		}
		v, e := affine.Apply(s, vecs[i])
		hold(t, v, e, vecs[i], api.OK, vecs[i])
	}
}

// inBrackets are three matrices multiplied from the first on and from the last on, and whether nothing ran over.
func inBrackets(a, b, c api.Mat) (ahead, behind api.Mat, fits bool) {
	ab, e1 := affine.Mul(a, b)
	ahead, e2 := affine.Mul(ab, c)
	bc, e3 := affine.Mul(b, c)
	behind, e4 := affine.Mul(a, bc)
	return ahead, behind, e1 == api.OK && e2 == api.OK && e3 == api.OK && e4 == api.OK
}

// P3.2: of whole numbers, it is the same how a product is put in brackets.
func TestBrackets(t *testing.T) {
	for _, most := range []int32{5, 40} {
		mats, _ := whole(600, most)
		mats = append(mats, turns()[0], turns()[1], turns()[2], same(), turns()[1])
		some := 0
		for i := range mats[2:] {
			ahead, behind, fits := inBrackets(mats[i], mats[i+1], mats[i+2])
			if !fits {
				continue
			}
			some++
			got, e := affine.Mul(mats[i : i+3]...)
			hold(t, ahead, api.OK, behind, api.OK, mats[i:i+3])
			hold(t, got, e, behind, api.OK, mats[i:i+3])
		}
		if some < 20 {
			t.Errorf("up to %d: only %d fit", most, some)
		}
	}
}

// P3.2: of whole numbers, a product applied is one applied behind the other.
func TestProductApplied(t *testing.T) {
	mats, vecs := whole(600, 5) // so few that nothing runs over
	for i := range mats[2:] {
		v := vecs[i]
		for _, m := range []api.Mat{mats[i+2], mats[i+1], mats[i]} {
			next, e := affine.Apply(m, v)
			hold(t, e, api.OK, api.OK, api.OK, m, v)
			v = next
		}
		m, e := affine.Mul(mats[i : i+3]...)
		hold(t, e, api.OK, api.OK, api.OK, mats[i:i+3])
		got, e := affine.Apply(m, vecs[i])
		hold(t, got, e, v, api.OK, mats[i:i+3], vecs[i])
	}
}

// answers is what all calls answer of two matrices, a vector and a number.
type answers struct {
	right                   bool
	same, move, scale, turn api.Mat
	product                 api.Mat
	applied                 api.Vec
	productErr, appliedErr  api.Errno
}

func ask(a, b api.Mat, v api.Vec, axis int) (r answers) {
	r.right = affine.Right(a, b)
	r.same, r.move, r.scale, r.turn = affine.Same(), affine.Move(v), affine.Scale(v), affine.Turn(axis)
	r.product, r.productErr = affine.Mul(a, b)
	r.applied, r.appliedErr = affine.Apply(a, v)
	return r
}

// P1, P2: the calls end at all arguments, and answer the same the next time.
func TestSameAgain(t *testing.T) {
	all := append(edges(), wrong()...)
	for i, x := range all {
		for j, y := range all {
			a, b, v := numbered(), other(), api.Vec{x, 1, y}
			a[i%12], b[j%12] = x, y
			first := ask(a, b, v, int(x))
			ask(b, a, api.Vec{y, x, x}, int(y))
			if again := ask(a, b, v, int(x)); again != first {
				t.Fatalf("%v %v %v: %v, then %v", a, b, v, first, again)
			}
		}
	}
}

// Rule 4: a list that is handed in is not written into, and what lies behind its length is not read.
func TestListsAreLeftAlone(t *testing.T) {
	memory := []api.Mat{numbered(), same(), turns()[0], {7: greatest + 1}, {11: math.MinInt}}
	before := slices.Clone(memory)
	if !affine.Right(memory[:3]...) {
		t.Error("Right read behind the list")
	}
	if _, e := affine.Mul(memory[:3]...); e != api.OK {
		t.Errorf("Mul read behind the list: %d", e)
	}
	affine.Mul(memory...)
	affine.Right(memory...)
	if !slices.Equal(memory, before) {
		t.Errorf("written into: %v", memory)
	}
}
