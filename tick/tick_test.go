package tick

import (
	"math"
	"math/big"
	"testing"

	"spigot/api"
)

// edges are the numbers at which an answer changes its kind.
var edges = []int64{
	math.MinInt64, math.MinInt64 + 1, -api.Max - 1, -api.Max, -2, -1,
	0, 1, 2, 3, 5, 7, 8,
	1<<31 - 1, 1 << 31, 1<<31 + 1, 1<<32 - 1, 1 << 32,
	// 3 times this one is Max, and it is the last of which that is true.
	1537228672809129301, 1537228672809129302,
	api.Max/2 - 1, api.Max / 2, api.Max/2 + 1, api.Max/2 + 2,
	api.Max - 1, api.Max, api.Max + 1, math.MaxInt64 - 1, math.MaxInt64,
}

func isTick(n int64) bool {
	return big.NewInt(n).Sign() >= 0 && big.NewInt(n).Cmp(big.NewInt(api.Max)) <= 0
}

// within is n, or the end of the ticks beyond which it lies.
func within(n *big.Int) int64 {
	if n.Sign() < 0 {
		return 0
	}
	if n.Cmp(big.NewInt(api.Max)) > 0 {
		return api.Max
	}
	return n.Int64()
}

// eachPair hands every pair of edges to f, with both as big numbers.
func eachPair(f func(a, b int64, x, y *big.Int)) {
	for _, a := range edges {
		for _, b := range edges {
			f(a, b, big.NewInt(a), big.NewInt(b))
		}
	}
}

// P1.1

func TestForm(t *testing.T) {
	for _, c := range []struct {
		n    int64
		want bool
	}{
		{0, true}, {1, true}, {1000, true}, {4611686018427387902, true}, {4611686018427387903, true},
		{4611686018427387904, false}, {math.MaxInt64, false}, {-1, false}, {math.MinInt64, false},
	} {
		if got := Form(c.n); got != c.want {
			t.Errorf("Form(%d) = %v", c.n, got)
		}
	}
}

func TestClamp(t *testing.T) {
	for _, c := range []struct{ n, want int64 }{
		{0, 0}, {1, 1}, {1000, 1000}, {-1, 0}, {-5, 0}, {math.MinInt64, 0},
		{4611686018427387902, 4611686018427387902},
		{4611686018427387903, 4611686018427387903},
		{4611686018427387904, 4611686018427387903},
		{9223372036854775807, 4611686018427387903},
	} {
		if got := Clamp(c.n); got != c.want {
			t.Errorf("Clamp(%d) = %d, not %d", c.n, got, c.want)
		}
	}
}

func TestFormAndClampAtEdges(t *testing.T) {
	for _, n := range edges {
		if Form(n) != isTick(n) {
			t.Errorf("Form(%d) = %v", n, Form(n))
		}
		if Clamp(n) != within(big.NewInt(n)) {
			t.Errorf("Clamp(%d) = %d", n, Clamp(n))
		}
	}
}

// P1.2

func TestAddSubMul(t *testing.T) {
	const Max = 4611686018427387903
	for _, c := range []struct {
		name string
		f    func(a, b int64) (int64, api.Errno)
		a, b int64
		want int64
	}{
		{"Add", Add, 2, 3, 5},
		{"Add", Add, 0, 0, 0},
		{"Add", Add, Max, 0, Max},
		{"Add", Add, Max - 1, 1, Max},
		{"Add", Add, Max, 1, Max},
		{"Add", Add, Max, Max, Max},
		{"Sub", Sub, 5, 3, 2},
		{"Sub", Sub, 3, 3, 0},
		{"Sub", Sub, 2, 3, 0},
		{"Sub", Sub, 0, Max, 0},
		{"Sub", Sub, Max, 0, Max},
		{"Sub", Sub, Max, 1, Max - 1},
		{"Mul", Mul, 6, 7, 42},
		{"Mul", Mul, 0, Max, 0},
		{"Mul", Mul, Max, 0, 0},
		{"Mul", Mul, 0, 0, 0},
		{"Mul", Mul, 1, Max, Max},
		{"Mul", Mul, Max, 1, Max},
		{"Mul", Mul, Max, 2, Max},
		{"Mul", Mul, Max, Max, Max},
		{"Mul", Mul, 3, 1537228672809129301, Max},
		{"Mul", Mul, 1 << 31, 1<<31 - 1, Max - 2147483647},
		{"Mul", Mul, 1 << 31, 1 << 31, Max},
		{"Mul", Mul, 4294967296, 4294967296, Max},
	} {
		if got, e := c.f(c.a, c.b); got != c.want || e != api.OK {
			t.Errorf("%s(%d, %d) = %d, %d, not %d", c.name, c.a, c.b, got, e, c.want)
		}
	}
}

func TestAddSubMulAtEdges(t *testing.T) {
	for _, c := range []struct {
		name  string
		f     func(a, b int64) (int64, api.Errno)
		exact func(z, x, y *big.Int) *big.Int
	}{
		{"Add", Add, (*big.Int).Add},
		{"Sub", Sub, (*big.Int).Sub},
		{"Mul", Mul, (*big.Int).Mul},
	} {
		eachPair(func(a, b int64, x, y *big.Int) {
			want, fault := within(c.exact(new(big.Int), x, y)), api.OK
			if !isTick(a) || !isTick(b) {
				want, fault = 0, api.ErrArg
			}
			if got, e := c.f(a, b); got != want || e != fault {
				t.Errorf("%s(%d, %d) = %d, %d, not %d, %d", c.name, a, b, got, e, want, fault)
			}
		})
	}
}

// P1.3

func TestDiv(t *testing.T) {
	const Max = 4611686018427387903
	for _, c := range []struct {
		a, b       int64
		want, rest int64
		fault      api.Errno
	}{
		{7, 2, 3, 1, api.OK},
		{8, 2, 4, 0, api.OK},
		{0, 5, 0, 0, api.OK},
		{4, 5, 0, 4, api.OK},
		{Max, 1, Max, 0, api.OK},
		{Max, 2, Max / 2, 1, api.OK},
		{Max, Max, 1, 0, api.OK},
		{Max - 1, Max, 0, Max - 1, api.OK},
		{1, 0, 0, 0, api.ErrArg},
		{0, 0, 0, 0, api.ErrArg},
		{7, -2, 0, 0, api.ErrArg},
		{-7, 2, 0, 0, api.ErrArg},
		{7, Max + 1, 0, 0, api.ErrArg},
		{Max + 1, 7, 0, 0, api.ErrArg},
	} {
		if got, rest, e := Div(c.a, c.b); got != c.want || rest != c.rest || e != c.fault {
			t.Errorf("Div(%d, %d) = %d, %d, %d", c.a, c.b, got, rest, e)
		}
	}
}

func TestCeil(t *testing.T) {
	const Max = 4611686018427387903
	for _, c := range []struct {
		a, b  int64
		want  int64
		fault api.Errno
	}{
		{7, 2, 4, api.OK},
		{8, 2, 4, api.OK},
		{9, 2, 5, api.OK},
		{0, 5, 0, api.OK},
		{1, 5, 1, api.OK},
		{Max, 1, Max, api.OK},
		{Max, 2, Max/2 + 1, api.OK},
		{Max - 1, Max, 1, api.OK},
		{Max, Max, 1, api.OK},
		{1, 0, 0, api.ErrArg},
		{0, 0, 0, api.ErrArg},
		{7, -2, 0, api.ErrArg},
		{-7, 2, 0, api.ErrArg},
		{7, Max + 1, 0, api.ErrArg},
		{Max + 1, 7, 0, api.ErrArg},
	} {
		if got, e := Ceil(c.a, c.b); got != c.want || e != c.fault {
			t.Errorf("Ceil(%d, %d) = %d, %d", c.a, c.b, got, e)
		}
	}
}

func TestDivAndCeilAtEdges(t *testing.T) {
	eachPair(func(a, b int64, x, y *big.Int) {
		var quotient, rest, above int64
		fault := api.ErrArg
		if isTick(a) && isTick(b) && b != 0 {
			q, r := new(big.Int).QuoRem(x, y, new(big.Int))
			quotient, rest, above, fault = q.Int64(), r.Int64(), q.Int64(), api.OK
			if rest != 0 {
				above++
			}
		}
		if q, r, e := Div(a, b); q != quotient || r != rest || e != fault {
			t.Errorf("Div(%d, %d) = %d, %d, %d", a, b, q, r, e)
		}
		if q, e := Ceil(a, b); q != above || e != fault {
			t.Errorf("Ceil(%d, %d) = %d, %d", a, b, q, e)
		}
	})
}
