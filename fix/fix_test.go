package fix

import (
	"math"
	"math/big"
	"testing"

	"fuller/api"
)

const (
	one   = api.One
	least = math.MinInt
	most  = math.MaxInt
)

type (
	alone func(a int) (int, api.Errno)
	both  func(a, b int) (int, api.Errno)
)

// row is a call and its answer.
type row struct {
	a, b int
	want int
	err  api.Errno
}

func checkBoth(t *testing.T, name string, f both, rows []row) {
	t.Helper()
	for _, r := range rows {
		if n, err := f(r.a, r.b); n != r.want || err != r.err {
			t.Errorf("%s(%d, %d) is %d, %d; want %d, %d", name, r.a, r.b, n, err, r.want, r.err)
		}
	}
}

// checkAlone leaves out b of the rows.
func checkAlone(t *testing.T, name string, f alone, rows []row) {
	t.Helper()
	for _, r := range rows {
		if n, err := f(r.a); n != r.want || err != r.err {
			t.Errorf("%s(%d) is %d, %d; want %d, %d", name, r.a, n, err, r.want, r.err)
		}
	}
}

// P1.1
func TestAdd(t *testing.T) {
	checkBoth(t, "Add", Add, []row{
		{1, 2, 3, api.OK},
		{5, -7, -2, api.OK},
		{0, 0, 0, api.OK},
		{one, one, 2 * one, api.OK},
		{most, 0, most, api.OK},
		{0, least, least, api.OK},
		{most, least, -1, api.OK},
		{most - 1, 1, most, api.OK},
		{least + 1, -1, least, api.OK},
		{most, 1, 0, api.ErrOver},
		{1, most, 0, api.ErrOver},
		{most, most, 0, api.ErrOver},
		{least, -1, 0, api.ErrOver},
		{-1, least, 0, api.ErrOver},
		{least, least, 0, api.ErrOver},
	})
}

// P1.1
func TestSub(t *testing.T) {
	checkBoth(t, "Sub", Sub, []row{
		{1, 2, -1, api.OK},
		{5, -7, 12, api.OK},
		{0, 0, 0, api.OK},
		{most, most, 0, api.OK},
		{least, least, 0, api.OK},
		{least, 0, least, api.OK},
		{0, most, -most, api.OK},
		{-1, most, least, api.OK},
		{-1, least, most, api.OK},
		{-2, most, 0, api.ErrOver},
		{0, least, 0, api.ErrOver},
		{1, least, 0, api.ErrOver},
		{most, -1, 0, api.ErrOver},
		{least, 1, 0, api.ErrOver},
		{most, least, 0, api.ErrOver},
		{least, most, 0, api.ErrOver},
	})
}

// P1.1
func TestNeg(t *testing.T) {
	checkAlone(t, "Neg", Neg, []row{
		{a: 0, want: 0},
		{a: 5, want: -5},
		{a: -one, want: one},
		{a: most, want: least + 1},
		{a: least + 1, want: most},
		{a: least, err: api.ErrOver},
	})
}

// P1.2
func TestMul(t *testing.T) {
	checkBoth(t, "Mul", Mul, []row{
		{3 * one, -2 * one, -6 * one, api.OK},
		{-3 * one, -2 * one, 6 * one, api.OK},
		{one / 2, one / 2, one / 4, api.OK},
		{0, least, 0, api.OK},
		{-1, 0, 0, api.OK},
		// what is left is floored, not cut off
		{1, 1, 0, api.OK},
		{-1, 1, -1, api.OK},
		{1, -1, -1, api.OK},
		{-1, -1, 0, api.OK},
		{-3, one / 2, -2, api.OK},
		{-2, one / 2, -1, api.OK},
		{3, one / 2, 1, api.OK},
		{-one - 1, one, -one - 1, api.OK},
		{-one - 1, one - 1, -one, api.OK},
		{least, 1, -1 << 31, api.OK},
		{most, 1, 1<<31 - 1, api.OK},
		{most, -1, -1 << 31, api.OK},
		// the least and the greatest number
		{most, one, most, api.OK},
		{least, one, least, api.OK},
		{most, -one, -most, api.OK},
		{1 << 47, -1 << 48, least, api.OK},
		{1<<48 - 1, 1 << 47, most + 1 - 1<<15, api.OK},
		{least, -one, 0, api.ErrOver},
		{1 << 47, 1 << 48, 0, api.ErrOver},
		{-1 << 47, -1 << 48, 0, api.ErrOver},
		{most, one + 1, 0, api.ErrOver},
		{least, one + 1, 0, api.ErrOver},
		{1 << 48, 1 << 48, 0, api.ErrOver},
		{least, least, 0, api.ErrOver},
		{most, most, 0, api.ErrOver},
		{most, least, 0, api.ErrOver},
		// floored these are -2^64, which leaves nothing in one word
		{1<<48 - 1, -1<<48 - 1, 0, api.ErrOver},
		{1 << 48, -1 << 48, 0, api.ErrOver},
		// floored this is the least number, and the next one is one below it
		{1<<32 + 1, -1<<63 + 1<<31, least, api.OK},
		{1<<32 + 1, -1<<63 + 1<<31 - 1, 0, api.ErrOver},
	})
}

// P1.2
func TestDiv(t *testing.T) {
	checkBoth(t, "Div", Div, []row{
		{one, 2 * one, 1 << 31, api.OK},
		{7 * one, -2 * one, -7 * one / 2, api.OK},
		{-7 * one, -2 * one, 7 * one / 2, api.OK},
		{0, 5, 0, api.OK},
		{0, -5, 0, api.OK},
		// what is left is floored, not cut off
		{one, 3 * one, 1431655765, api.OK},
		{-one, 3 * one, -1431655766, api.OK},
		{one, -3 * one, -1431655766, api.OK},
		{-one, -3 * one, 1431655765, api.OK},
		{-1, 3 * one, -1, api.OK},
		{1, most, 0, api.OK},
		{1, least, -1, api.OK},
		{-1, most, -1, api.OK},
		{-1, least, 0, api.OK},
		// the least and the greatest number
		{most, one, most, api.OK},
		{least, one, least, api.OK},
		{most, -one, -most, api.OK},
		{most, most, one, api.OK},
		{least, least, one, api.OK},
		{most, least, -one, api.OK},
		{1 << 30, 1, 1 << 62, api.OK},
		{-1 << 31, 1, least, api.OK},
		{1 << 31, -1, least, api.OK},
		{1 << 31, 1, 0, api.ErrOver},
		{-1 << 31, -1, 0, api.ErrOver},
		{-1<<31 - 1, 1, 0, api.ErrOver},
		{one, 1, 0, api.ErrOver},
		{-one, 1, 0, api.ErrOver},
		{least, -one, 0, api.ErrOver},
		{least, 1, 0, api.ErrOver},
		{most, one - 1, 0, api.ErrOver},
		{least, one - 1, 0, api.ErrOver},
		// by 0 nothing is divided, nothing included
		{1, 0, 0, api.ErrZero},
		{0, 0, 0, api.ErrZero},
		{-1, 0, 0, api.ErrZero},
		{most, 0, 0, api.ErrZero},
		{least, 0, 0, api.ErrZero},
	})
}

// P1.3
func TestSqrt(t *testing.T) {
	checkAlone(t, "Sqrt", Sqrt, []row{
		{a: 0, want: 0},
		{a: 1, want: 1 << 16},
		{a: 2, want: 92681},
		{a: one / 4, want: one / 2},
		{a: one - 1, want: one - 1},
		{a: one, want: one},
		{a: one + 1, want: one},
		{a: 2 * one, want: 6074000999},
		{a: 4*one - 1, want: 2*one - 1},
		{a: 4 * one, want: 2 * one},
		{a: 9 * one, want: 3 * one},
		{a: most, want: 199032864766430},
		{a: -1, err: api.ErrNeg},
		{a: -one, err: api.ErrNeg},
		{a: least, err: api.ErrNeg},
	})
}

// P1.4
func TestPow(t *testing.T) {
	checkAlone(t, "Pow", Pow, []row{
		{a: 0, want: one},
		{a: 1, want: one + 1},
		{a: one, want: 2 * one},
		{a: one + one/2, want: 3 * one},
		{a: 3 * one, want: 8 * one},
		{a: 30 * one, want: 1 << 62},
		{a: 31*one - 1, want: 1<<63 - 1<<30},
		{a: 31 * one, err: api.ErrOver},
		{a: 31*one + 1, err: api.ErrOver},
		{a: 32 * one, err: api.ErrOver},
		{a: 63 * one, err: api.ErrOver},
		{a: 64 * one, err: api.ErrOver},
		{a: most, err: api.ErrOver},
		// below 0 the whole part is floored too
		{a: -1, want: one - 1},
		{a: -2, want: one - 1},
		{a: -3, want: one - 2},
		{a: -one / 2, want: 3 * one / 4},
		{a: -one, want: one / 2},
		{a: -one - 1, want: one/2 - 1},
		{a: -31 * one, want: 2},
		{a: -32*one + one/2, want: 1},
		{a: -32 * one, want: 1},
		{a: -32*one - 1, want: 0},
		{a: -33 * one, want: 0},
		{a: -64 * one, want: 0},
		{a: least, want: 0},
	})
}

// P1.4
func TestSlope(t *testing.T) {
	checkAlone(t, "Slope", Slope, []row{
		{a: 0, want: one},
		{a: one - 1, want: one},
		{a: one, want: 2 * one},
		{a: one + one/2, want: 2 * one},
		{a: 30 * one, want: 1 << 62},
		{a: 31*one - 1, want: 1 << 62},
		{a: 31 * one, err: api.ErrOver},
		{a: 32 * one, err: api.ErrOver},
		{a: 64 * one, err: api.ErrOver},
		{a: most, err: api.ErrOver},
		{a: -1, want: one / 2},
		{a: -one, want: one / 2},
		{a: -one - 1, want: one / 4},
		{a: -32 * one, want: 1},
		{a: -32*one - 1, want: 0},
		{a: -33 * one, want: 0},
		{a: -64 * one, want: 0},
		{a: least, want: 0},
	})
}

// numbers are edges, numbers beside them, and some in between, always the same ones.
func numbers() []int {
	var l []int
	for i := 0; i < 64; i++ {
		for d := -1; d <= 1; d++ {
			l = append(l, 1<<i+d, -1<<i+d)
		}
	}
	seed := uint64(1)
	for i := 0; i < 200; i++ {
		seed = seed*6364136223846793005 + 1442695040888963407
		l = append(l, int(seed)>>(seed>>58))
	}
	return l
}

// fitted is a great number as a call answers it.
func fitted(n *big.Int) (int, api.Errno) {
	if !n.IsInt64() {
		return 0, api.ErrOver
	}
	return int(n.Int64()), api.OK
}

// floor is a divided by b, floored; big's own division leaves a rest that is not below 0, whatever b is.
func floor(a, b *big.Int) *big.Int {
	if b.Sign() < 0 {
		a, b = new(big.Int).Neg(a), new(big.Int).Neg(b)
	}
	return new(big.Int).Div(a, b)
}

// shift is a times 2 to the power of k, floored.
func shift(a *big.Int, k int) *big.Int {
	if k < 0 {
		return new(big.Int).Rsh(a, uint(-k))
	}
	return new(big.Int).Lsh(a, uint(k))
}

// P1.1, P1.2: held against numbers of any length.
func TestTwoExactly(t *testing.T) {
	o := big.NewInt(one)
	for _, a := range numbers() {
		for _, b := range numbers() {
			x, y := big.NewInt(int64(a)), big.NewInt(int64(b))
			check := func(name string, f both, exact *big.Int) {
				want, err := fitted(exact)
				checkBoth(t, name, f, []row{{a, b, want, err}})
			}
			check("Add", Add, new(big.Int).Add(x, y))
			check("Sub", Sub, new(big.Int).Sub(x, y))
			check("Mul", Mul, floor(new(big.Int).Mul(x, y), o))
			if b != 0 {
				check("Div", Div, floor(new(big.Int).Mul(x, o), y))
			}
		}
	}
}

// P1.1, P1.3, P1.4: held against numbers of any length.
func TestOneExactly(t *testing.T) {
	o := big.NewInt(one)
	for _, a := range numbers() {
		x := big.NewInt(int64(a))
		check := func(name string, f alone, exact *big.Int) {
			want, err := fitted(exact)
			checkAlone(t, name, f, []row{{a: a, want: want, err: err}})
		}
		check("Neg", Neg, new(big.Int).Neg(x))
		if a >= 0 {
			check("Sqrt", Sqrt, new(big.Int).Sqrt(new(big.Int).Mul(x, o)))
		}
		k := floor(x, o)
		if k.Int64() > 1000 {
			k = big.NewInt(1000)
		}
		if k.Int64() < -1000 {
			k = big.NewInt(-1000)
		}
		f := new(big.Int).Mod(x, o)
		check("Pow", Pow, shift(new(big.Int).Add(o, f), int(k.Int64())))
		check("Slope", Slope, shift(o, int(k.Int64())))
	}
}

// P1.5: which is first does not matter.
func TestFirstOrSecond(t *testing.T) {
	for _, a := range numbers() {
		for _, b := range numbers() {
			for name, f := range map[string]both{"Add": Add, "Mul": Mul} {
				n, err := f(a, b)
				checkBoth(t, name, f, []row{{b, a, n, err}})
			}
		}
	}
}

// P1.5: what is added is taken away again.
func TestAddedTakenAway(t *testing.T) {
	for _, a := range numbers() {
		for _, b := range numbers() {
			if sum, err := Add(a, b); err == api.OK {
				checkBoth(t, "Sub", Sub, []row{{sum, b, a, api.OK}, {sum, a, b, api.OK}})
			}
		}
	}
}

// P1.5: of a whole number Pow is that power of 2, and between them it rises.
func TestPowRises(t *testing.T) {
	for k := -32; k < 31; k++ {
		checkAlone(t, "Pow", Pow, []row{{a: k * one, want: 1 << (32 + k)}})
	}
	last := 0
	for a := -34 * one; a < 31*one; a += one/64 + 1 {
		n, err := Pow(a)
		if n < last || err != api.OK {
			t.Errorf("Pow(%d) is %d, %d; ahead of it %d", a, n, err, last)
		}
		last = n
	}
}
