package fix_test

import (
	"math"
	"math/big"
	"slices"
	"testing"

	"gesso/api"
	"gesso/fix"
)

// The limits as the document writes them, so that a test leans on no constant of the program.
const (
	least    = -2147483648
	greatest = 2147483647
	one      = 65536
)

// edges are numbers at which something turns, in rising order; those at both ends may not be.
func edges() []api.F {
	return []api.F{
		math.MinInt, math.MinInt + 1, -1 << 48, -1 << 32, least - 65536, least - 1,
		least, least + 1, -200 * one, -11863283, -65537, -65536, -65535, -46341, -32769, -32768, -3, -2, -1,
		0, 1, 2, 3, 32767, 32768, 46340, 46341, 65535, 65536, 65537, 11863283, 200 * one, greatest - 1, greatest,
		greatest + 1, greatest + 65536, 1 << 32, 1 << 48, math.MaxInt - 1, math.MaxInt,
	}
}

// numbers are those that may be: the edges' own and some from a fixed rule, in rising order.
func numbers() []api.F {
	var l []api.F
	for _, x := range edges() {
		if mayBe(x) {
			l = append(l, x)
		}
	}
	state := uint32(2463534242)
	for i := range 300 {
		state ^= state << 13
		state ^= state >> 17
		state ^= state << 5
		l = append(l, api.F(int32(state)>>(i%31)))
	}
	slices.Sort(l)
	return l
}

func mayBe(x api.F) bool { return x >= -2147483648 && x <= 2147483647 }

func wide(x api.F) *big.Int { return big.NewInt(int64(x)) }

// below is the greatest whole number that is not above n by d, d not 0.
func below(n, d *big.Int) *big.Int {
	if d.Sign() < 0 {
		n, d = new(big.Int).Neg(n), new(big.Int).Neg(d)
	}
	return new(big.Int).Div(n, d) // Euclid's, which drops downwards where d is above 0
}

// told is what a call must answer if x came out of arguments that may be.
func told(x *big.Int) (api.F, api.Errno) {
	if x.Cmp(big.NewInt(least)) < 0 || x.Cmp(big.NewInt(greatest)) > 0 {
		return 0, api.ErrOver
	}
	return api.F(x.Int64()), api.OK
}

// ratio is what Div would be without dropping, in 65536th parts.
func ratio(a, b api.F) *big.Rat {
	return new(big.Rat).SetFrac(new(big.Int).Mul(wide(a), big.NewInt(one)), wide(b))
}

// product is what Mul would be without dropping, in 65536th parts.
func product(a, b api.F) *big.Rat {
	return new(big.Rat).SetFrac(new(big.Int).Mul(wide(a), wide(b)), big.NewInt(one))
}

// The limits and the errors' numbers that this layer answers with (DOC.md, Limits and Errors).
func TestLimitsAndErrors(t *testing.T) {
	if api.One != one || api.MaxNum != greatest || api.MinNum != least {
		t.Errorf("limits: %d %d %d", api.One, api.MaxNum, api.MinNum)
	}
	if api.OK != 0 || api.ErrArg != 1 || api.ErrOver != 6 {
		t.Errorf("errors: %d %d %d", api.OK, api.ErrArg, api.ErrOver)
	}
}

// P1.1: Right.
func TestRight(t *testing.T) {
	if !fix.Right() || !fix.Right(nil...) {
		t.Error("no number: want true")
	}
	for _, x := range edges() {
		if fix.Right(x) != mayBe(x) {
			t.Errorf("%d: %v", x, fix.Right(x))
		}
		for place := range 3 {
			l := []api.F{least, 0, greatest}
			l[place] = x
			if fix.Right(l...) != mayBe(x) {
				t.Errorf("%v: %v", l, fix.Right(l...))
			}
		}
	}
	if long := make([]api.F, 5000); !fix.Right(long...) {
		t.Error("5000 noughts: want true") // Add's bound is Add's alone
	}
}

// P1.1: Of.
func TestOf(t *testing.T) {
	for _, n := range []int{-32768, -32767, -3, -1, 0, 1, 3, 32766, 32767} {
		if x, e := fix.Of(n); x != api.F(n)*one || e != api.OK {
			t.Errorf("%d: %d %d", n, x, e)
		}
	}
	// Some of these would wrap round into the limits if they were multiplied first.
	for _, n := range []int{-32769, 32768, 65536, least, greatest, 1 << 47, 1 << 48, -1 << 48, 1<<48 + 1, 1<<62 + 5, math.MinInt, math.MaxInt} {
		if x, e := fix.Of(n); x != 0 || e != api.ErrOver {
			t.Errorf("%d: %d %d", n, x, e)
		}
	}
}

// P1.1: Floor, of any F.
func TestFloor(t *testing.T) {
	for _, x := range append(edges(), numbers()...) {
		want := below(wide(x), big.NewInt(one)).Int64()
		if got := fix.Floor(x); int64(got) != want {
			t.Errorf("%d: %d, want %d", x, got, want)
		}
	}
	for n := -3; n <= 3; n++ {
		x, _ := fix.Of(n)
		if fix.Floor(x) != n || fix.Floor(x-1) != n-1 || fix.Floor(x+65535) != n {
			t.Errorf("round %d: %d %d %d", n, fix.Floor(x), fix.Floor(x-1), fix.Floor(x+65535))
		}
	}
}

func times(n int, x api.F) []api.F {
	return slices.Repeat([]api.F{x}, n)
}

// P1.1: Add.
func TestAdd(t *testing.T) {
	for i, c := range []struct {
		l    []api.F
		want api.F
		e    api.Errno
	}{
		{nil, 0, api.OK},
		{[]api.F{}, 0, api.OK},
		{[]api.F{-7}, -7, api.OK},
		{[]api.F{1, 2, -4}, -1, api.OK},
		{[]api.F{greatest}, greatest, api.OK},
		{[]api.F{least}, least, api.OK},
		{[]api.F{greatest, 5, -9}, greatest - 4, api.OK}, // only the end counts
		{[]api.F{least, least, greatest, greatest}, -2, api.OK},
		{[]api.F{greatest, 1}, 0, api.ErrOver},
		{[]api.F{least, -1}, 0, api.ErrOver},
		{[]api.F{greatest, 1, -1}, greatest, api.OK},
		{[]api.F{greatest + 1, -1}, 0, api.ErrArg},
		{[]api.F{1, least - 1}, 0, api.ErrArg},
		{[]api.F{greatest, greatest, greatest + 1}, 0, api.ErrArg}, // ErrArg comes ahead of ErrOver
		{[]api.F{math.MaxInt, 1}, 0, api.ErrArg},
		{times(1024, 3), 3072, api.OK},
		{times(1024, greatest), 0, api.ErrOver},
		{times(1024, least), 0, api.ErrOver},
		{append(times(512, greatest), times(512, -greatest)...), 0, api.OK},
		{append(times(512, greatest), times(512, least)...), -512, api.OK},
		{times(1025, 0), 0, api.ErrArg},
		{times(1025, greatest), 0, api.ErrArg},
	} {
		if x, e := fix.Add(c.l...); x != c.want || e != c.e {
			t.Errorf("%d: %d %d, want %d %d", i, x, e, c.want, c.e)
		}
	}
	for _, a := range numbers() {
		for _, b := range numbers() {
			want, wantE := told(new(big.Int).Add(wide(a), wide(b)))
			if x, e := fix.Add(a, b); x != want || e != wantE {
				t.Fatalf("%d %d: %d %d, want %d %d", a, b, x, e, want, wantE)
			}
		}
	}
}

// P1.1: Neg.
func TestNeg(t *testing.T) {
	for _, x := range append(edges(), numbers()...) {
		want, wantE := told(new(big.Int).Neg(wide(x)))
		if !mayBe(x) {
			want, wantE = 0, api.ErrArg
		}
		if n, e := fix.Neg(x); n != want || e != wantE {
			t.Errorf("%d: %d %d, want %d %d", x, n, e, want, wantE)
		}
	}
	if n, e := fix.Neg(least); n != 0 || e != api.ErrOver {
		t.Errorf("the least: %d %d", n, e)
	}
	if n, e := fix.Neg(least + 1); n != greatest || e != api.OK {
		t.Errorf("the least but one: %d %d", n, e)
	}
}

// P1.1: Mul and Div by example.
func TestMulDivExamples(t *testing.T) {
	for i, c := range []struct {
		f       func(a, b api.F) (api.F, api.Errno)
		a, b    api.F
		want    api.F
		wantErr api.Errno
	}{
		{fix.Mul, 3 * one, one / 2, 3 * one / 2, api.OK},
		{fix.Mul, -3 * one, one / 2, -3 * one / 2, api.OK},
		{fix.Mul, 1, 1, 0, api.OK},
		{fix.Mul, -1, 1, -1, api.OK},
		{fix.Mul, -1, -1, 0, api.OK},
		{fix.Mul, least, one, least, api.OK},
		{fix.Mul, least, -one, 0, api.ErrOver},
		{fix.Mul, greatest, -one, -greatest, api.OK},
		{fix.Mul, greatest, one + 1, 0, api.ErrOver},
		{fix.Mul, least, least, 0, api.ErrOver}, // 2^62: the greatest product
		{fix.Mul, least, greatest, 0, api.ErrOver},
		{fix.Mul, greatest + 1, 0, 0, api.ErrArg},
		{fix.Mul, 0, least - 1, 0, api.ErrArg},
		{fix.Div, one, 3 * one, 21845, api.OK},
		{fix.Div, -one, 3 * one, -21846, api.OK},
		{fix.Div, one, -3 * one, -21846, api.OK},
		{fix.Div, -one, -3 * one, 21845, api.OK},
		{fix.Div, -6, -2, 3 * one, api.OK},
		{fix.Div, -6, 2, -3 * one, api.OK},
		{fix.Div, 0, -5, 0, api.OK},
		{fix.Div, 1, greatest, 0, api.OK},
		{fix.Div, -1, greatest, -1, api.OK},
		{fix.Div, least, one, least, api.OK},
		{fix.Div, least, -one, 0, api.ErrOver},
		{fix.Div, greatest, one, greatest, api.OK},
		{fix.Div, 32767, 1, 32767 * one, api.OK},
		{fix.Div, 32768, 1, 0, api.ErrOver},
		{fix.Div, -32768, 1, least, api.OK},
		{fix.Div, 32768, -1, least, api.OK},
		{fix.Div, -32769, 1, 0, api.ErrOver},
		{fix.Div, 0, 0, 0, api.ErrArg},
		{fix.Div, greatest, 0, 0, api.ErrArg},
		{fix.Div, greatest + 1, one, 0, api.ErrArg},
		{fix.Div, 0, least - 1, 0, api.ErrArg},
		{fix.Div, math.MinInt, -1, 0, api.ErrArg},
	} {
		if x, e := c.f(c.a, c.b); x != c.want || e != c.wantErr {
			t.Errorf("%d: %d %d: %d %d, want %d %d", i, c.a, c.b, x, e, c.want, c.wantErr)
		}
	}
}

// P1.1: Mul and Div at all pairs, those that may not be too.
func TestMulDivAgainstWideNumbers(t *testing.T) {
	all := append(edges(), numbers()...)
	for _, a := range all {
		for _, b := range all {
			wantMul, mulErr := api.F(0), api.ErrArg
			wantDiv, divErr := api.F(0), api.ErrArg
			if mayBe(a) && mayBe(b) {
				wantMul, mulErr = told(below(new(big.Int).Mul(wide(a), wide(b)), big.NewInt(one)))
				if b != 0 {
					wantDiv, divErr = told(below(new(big.Int).Mul(wide(a), big.NewInt(one)), wide(b)))
				}
			}
			if x, e := fix.Mul(a, b); x != wantMul || e != mulErr {
				t.Fatalf("Mul %d %d: %d %d, want %d %d", a, b, x, e, wantMul, mulErr)
			}
			if x, e := fix.Div(a, b); x != wantDiv || e != divErr {
				t.Fatalf("Div %d %d: %d %d, want %d %d", a, b, x, e, wantDiv, divErr)
			}
		}
	}
}

// dropped tells whether x is not above exact, and less than a last place below.
func dropped(x api.F, exact *big.Rat) bool {
	lo := new(big.Rat).SetInt64(int64(x))
	hi := new(big.Rat).SetInt64(int64(x) + 1)
	return lo.Cmp(exact) <= 0 && exact.Cmp(hi) < 0
}

// P1.2: what is dropped is dropped downwards, and less than a last place.
func TestFloors(t *testing.T) {
	for _, a := range numbers() {
		for _, b := range numbers() {
			if x, e := fix.Mul(a, b); e == api.OK && !dropped(x, product(a, b)) {
				t.Fatalf("Mul %d %d: %d", a, b, x)
			}
			if x, e := fix.Div(a, b); e == api.OK && !dropped(x, ratio(a, b)) {
				t.Fatalf("Div %d %d: %d", a, b, x)
			}
		}
	}
}

// P1.2: Mul by 65536 is the number itself, from either side.
func TestMulByOne(t *testing.T) {
	for _, x := range numbers() {
		for _, l := range [][2]api.F{{x, one}, {one, x}} {
			if n, e := fix.Mul(l[0], l[1]); n != x || e != api.OK {
				t.Errorf("%v: %d %d", l, n, e)
			}
		}
	}
}

// P1.2: if b rises, Mul never falls where a is not below 0, and never rises where it is not above 0.
func TestMulRises(t *testing.T) {
	for _, a := range numbers() {
		last, some := api.F(0), false
		for _, b := range numbers() {
			x, e := fix.Mul(a, b)
			if e != api.OK {
				continue
			}
			if some && (a >= 0 && x < last || a <= 0 && x > last) {
				t.Fatalf("%d by %d: %d behind %d", a, b, x, last)
			}
			last, some = x, true
		}
		if !some {
			t.Fatalf("%d: nothing came out", a)
		}
	}
}

// P1, P2: the calls end at all arguments, and answer the same the next time.
func TestSameAgain(t *testing.T) {
	type answer struct {
		right              bool
		floor              int
		of, add, neg       api.F
		mul, div           api.F
		ofE, addE, negE    api.Errno
		mulE, divE         api.Errno
		rightAll, rightOne bool
	}
	ask := func(a, b api.F) (r answer) {
		r.right, r.rightAll, r.rightOne = fix.Right(), fix.Right(a, b), fix.Right(a)
		r.floor = fix.Floor(a)
		r.of, r.ofE = fix.Of(int(a))
		r.add, r.addE = fix.Add(a, b)
		r.neg, r.negE = fix.Neg(a)
		r.mul, r.mulE = fix.Mul(a, b)
		r.div, r.divE = fix.Div(a, b)
		return r
	}
	for _, a := range edges() {
		for _, b := range edges() {
			first := ask(a, b)
			ask(b, a)
			if again := ask(a, b); again != first {
				t.Fatalf("%d %d: %v, then %v", a, b, first, again)
			}
		}
	}
}

// Rule 4: a list that is handed in is not written into, and what lies behind its length is not read.
func TestListsAreLeftAlone(t *testing.T) {
	memory := []api.F{3, greatest, -9, greatest + 1, math.MinInt}
	before := slices.Clone(memory)
	l := memory[:3]
	if !fix.Right(l...) {
		t.Error("Right read behind the list")
	}
	if x, e := fix.Add(l...); x != greatest-6 || e != api.OK {
		t.Errorf("Add: %d %d", x, e)
	}
	fix.Add(memory...)
	fix.Right(memory...)
	if !slices.Equal(memory, before) {
		t.Errorf("written into: %v", memory)
	}
}
