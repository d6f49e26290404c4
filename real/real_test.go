package real

import (
	"math"
	"math/big"
	"testing"

	"spigot/api"
)

var (
	minus0   = math.Copysign(0, -1)
	infinity = math.Inf(1)
	// NaNs of both signs, quiet ones and others.
	nans = []float64{
		math.NaN(),
		math.Float64frombits(0x7ff0000000000001), math.Float64frombits(0x7fffffffffffffff),
		math.Float64frombits(0xfff0000000000001), math.Float64frombits(0xfff8000000000000), math.Float64frombits(0xffffffffffffffff),
	}
	// rising: each stands ahead of all those behind it.
	rising = []float64{
		math.Inf(-1), -math.MaxFloat64, -0x1p63, -0x1p53, -1e9, -2, -1, -0x1.fffffffffffffp-1, -0.75, -1e-300,
		-0x1p-1022, -0x0.fffffffffffffp-1022, -0x1p-1074, minus0,
		0, 0x1p-1074, 0x1p-1073, 0x0.fffffffffffffp-1022, 0x1p-1022, 0x1.0000000000001p-1022, 1e-300, 0x1p-62,
		0.0005, 0.1, 0.5, 0x1.fffffffffffffp-1, 1, 0x1.0000000000001p0, 1.5, 2, 2.5, 3, 3.5, 6, 1e9, 0x1p52 + 0.5, 0x1p53 - 1, 0x1p53, 0x1p53 + 2,
		0x1.fffffffffffffp61, 0x1p62, 0x1.0000000000001p62, 0x1p63, 0x1p64, 1e300, math.MaxFloat64, infinity,
	}
)

func bitsOf(x float64) uint64 { return math.Float64bits(x) }

// one: are x and y the same, bit by bit, or both NaNs?
func one(x, y float64) bool {
	return bitsOf(x) == bitsOf(y) || x != x && y != y
}

// dice are numbers that look thrown, and are the same in each run.
type dice uint64

func (d *dice) next() uint64 {
	*d = *d*6364136223846793005 + 1442695040888963407
	x := uint64(*d)
	return (x ^ x>>29) * 0x9e3779b97f4a7c15
}

// finite: a number with any sign and fraction, and an exponent from low to high.
func (d *dice) finite(low, high int) float64 {
	exponent := uint64(low+1023) + d.next()%uint64(high-low+1)
	return math.Float64frombits(d.next()&(1<<63|1<<52-1) | exponent<<52)
}

// P3.1

func TestKind(t *testing.T) {
	for _, c := range []struct {
		x    float64
		want int
	}{
		{0, 0}, {minus0, 0},
		{0x1p-1074, 1}, {-0x1p-1074, 1}, {0x0.fffffffffffffp-1022, 1}, {-0x0.fffffffffffffp-1022, 1}, {0x1p-1023, 1},
		{0x1p-1022, 2}, {-0x1p-1022, 2}, {1, 2}, {-1, 2}, {0.1, 2}, {math.MaxFloat64, 2}, {-math.MaxFloat64, 2},
		{infinity, 3}, {math.Inf(-1), 3},
	} {
		if got := Kind(c.x); got != c.want {
			t.Errorf("Kind(%x) = %d, not %d", c.x, got, c.want)
		}
	}
	for _, x := range nans {
		if got := Kind(x); got != 4 {
			t.Errorf("Kind of the NaN %x = %d", bitsOf(x), got)
		}
	}
}

func TestMinus(t *testing.T) {
	for i, x := range append(rising[:len(rising):len(rising)], nans...) {
		want := i < 14 || bitsOf(x)>>63 == 1
		if got := Minus(x); got != want {
			t.Errorf("Minus of %x = %v", bitsOf(x), got)
		}
	}
}

func TestExact(t *testing.T) {
	for _, c := range []struct {
		x     float64
		minus bool
		m     uint64
		e     int
		fault api.Errno
	}{
		{-0.75, true, 3, -2, api.OK},
		{minus0, true, 0, 0, api.OK},
		{0, false, 0, 0, api.OK},
		{6, false, 3, 1, api.OK},
		{1, false, 1, 0, api.OK},
		{-1, true, 1, 0, api.OK},
		{0.5, false, 1, -1, api.OK},
		{0x1p53 - 1, false, 1<<53 - 1, 0, api.OK},
		{0x1p-1074, false, 1, -1074, api.OK},
		{-0x1p-1073, true, 1, -1073, api.OK},
		{0x0.fffffffffffffp-1022, false, 1<<52 - 1, -1074, api.OK},
		{0x1p-1022, false, 1, -1022, api.OK},
		{math.MaxFloat64, false, 1<<53 - 1, 971, api.OK},
		{0x1p1023, false, 1, 1023, api.OK},
		{infinity, false, 0, 0, api.ErrRange},
		{math.Inf(-1), false, 0, 0, api.ErrRange},
	} {
		if minus, m, e, fault := Exact(c.x); minus != c.minus || m != c.m || e != c.e || fault != c.fault {
			t.Errorf("Exact(%x) = %v, %d, %d, %d", c.x, minus, m, e, fault)
		}
	}
	for _, x := range nans {
		if minus, m, e, fault := Exact(x); minus || m != 0 || e != 0 || fault != api.ErrNaN {
			t.Errorf("Exact of the NaN %x = %v, %d, %d, %d", bitsOf(x), minus, m, e, fault)
		}
	}
}

func TestExactComesBack(t *testing.T) {
	list := rising[1 : len(rising)-1]
	d := dice(1)
	for range 3000 {
		list = append(list, d.finite(-1023, 1023), d.finite(-60, 60))
	}
	for _, x := range list {
		minus, m, e, fault := Exact(x)
		if fault != api.OK || m != 0 && m%2 == 0 || m == 0 && e != 0 {
			t.Errorf("Exact(%x) = %v, %d, %d, %d", x, minus, m, e, fault)
		}
		back := math.Ldexp(float64(m), e)
		if minus {
			back = -back
		}
		if !one(back, x) {
			t.Errorf("Exact(%x) = %v, %d, %d", x, minus, m, e)
		}
	}
}

// P3.2

// wantTicks: x * hz by rational numbers, of an hz and a how that are in form.
func wantTicks(x float64, hz int64, how int) (int64, api.Errno) {
	if x != x {
		return 0, api.ErrNaN
	}
	if math.IsInf(x, 0) || x < 0 {
		return 0, api.ErrRange
	}
	product := new(big.Rat).SetFloat64(x)
	product.Mul(product, new(big.Rat).SetInt64(hz))
	q, rest := new(big.Int).QuoRem(product.Num(), product.Denom(), new(big.Int))
	side := new(big.Int).Lsh(rest, 1).Cmp(product.Denom())
	if how == 1 && rest.Sign() > 0 || how == 2 && (side > 0 || side == 0 && q.Bit(0) == 1) {
		q.Add(q, big.NewInt(1))
	}
	if q.Cmp(big.NewInt(api.Max)) > 0 {
		return 0, api.ErrRange
	}
	return q.Int64(), api.OK
}

func TestTicks(t *testing.T) {
	nan := math.NaN()
	for _, c := range []struct {
		x     float64
		hz    int64
		how   int
		want  int64
		fault api.Errno
	}{
		{0.5, 1000, 0, 500, api.OK},
		{0.0005, 1000, 0, 0, api.OK},
		{0.0005, 1000, 1, 1, api.OK},
		{0.0005, 1000, 2, 1, api.OK},
		{0.5, 1, 2, 0, api.OK},
		{1.5, 1, 2, 2, api.OK},
		{2.5, 1, 0, 2, api.OK},
		{2.5, 1, 1, 3, api.OK},
		{2.5, 1, 2, 2, api.OK},
		{3.5, 1, 2, 4, api.OK},
		{0x1.4000000000001p1, 1, 2, 3, api.OK},
		{0x1.3ffffffffffffp1, 1, 2, 2, api.OK},
		{2, 1, 1, 2, api.OK},
		{0, 1, 1, 0, api.OK},
		{minus0, 7, 1, 0, api.OK},
		{minus0, api.MaxHz, 0, 0, api.OK},
		{0x1p-1074, api.MaxHz, 1, 1, api.OK},
		{0x1p-1074, api.MaxHz, 0, 0, api.OK},
		{0x1p-1074, api.MaxHz, 2, 0, api.OK},
		{0x1.fffffffffffffp61, 1, 0, api.Max - 511, api.OK},
		{0x1p62, 1, 0, 0, api.ErrRange},
		{0x1p61, 2, 0, 0, api.ErrRange},
		{0x1p-1022, 1, 1, 1, api.OK},
		{1e300, 1, 0, 0, api.ErrRange},
		{math.MaxFloat64, api.MaxHz, 0, 0, api.ErrRange},
		{infinity, 1, 0, 0, api.ErrRange},
		{math.Inf(-1), 1, 0, 0, api.ErrRange},
		{-0.1, 1, 0, 0, api.ErrRange},
		{-0x1p-1074, 1, 1, 0, api.ErrRange},
		{nan, 1, 0, 0, api.ErrNaN},
		{nans[3], 1, 0, 0, api.ErrNaN},
		{nan, 0, 0, 0, api.ErrArg},
		{nan, 1, 3, 0, api.ErrArg},
		{infinity, 1, -1, 0, api.ErrArg},
		{1, 0, 0, 0, api.ErrArg},
		{1, -1, 0, 0, api.ErrArg},
		{1, math.MinInt64, 0, 0, api.ErrArg},
		{1, api.MaxHz, 0, api.MaxHz, api.OK},
		{1, api.MaxHz + 1, 0, 0, api.ErrArg},
		{1, math.MaxInt64, 0, 0, api.ErrArg},
		{1, 1, -1, 0, api.ErrArg},
		{1, 1, 3, 0, api.ErrArg},
		{1, 1, math.MaxInt, 0, api.ErrArg},
		{1, 1, math.MinInt, 0, api.ErrArg},
		{-1, 0, 0, 0, api.ErrArg},
	} {
		if got, fault := Ticks(c.x, c.hz, c.how); got != c.want || fault != c.fault {
			t.Errorf("Ticks(%x, %d, %d) = %d, %d", c.x, c.hz, c.how, got, fault)
		}
	}
}

// edgeSeconds: float64s whose products with hz lie about Max and about small halves.
func edgeSeconds(hz int64) []float64 {
	var list []float64
	for _, target := range []float64{0.5, 1, 1.5, 2.5, 1000.5, 0x1p52 + 0.5, 0x1p53, 0x1p61, 0x1p62} {
		x := target / float64(hz)
		for range 4 {
			x = math.Nextafter(x, 0)
		}
		for range 9 {
			list = append(list, x)
			x = math.Nextafter(x, infinity)
		}
	}
	return list
}

func TestTicksAreTrue(t *testing.T) {
	d := dice(2)
	for _, hz := range []int64{1, 2, 3, 7, 10, 1000, 1 << 20, 999999937, api.MaxHz - 1, api.MaxHz} {
		list := append(edgeSeconds(hz), rising...)
		list = append(list, nans...)
		for range 500 {
			list = append(list, math.Abs(d.finite(-40, 62)), d.finite(-1023, 1023))
		}
		for _, x := range list {
			for how := range 3 {
				want, wantFault := wantTicks(x, hz, how)
				if got, fault := Ticks(x, hz, how); got != want || fault != wantFault {
					t.Errorf("Ticks(%x, %d, %d) = %d, %d, not %d, %d", x, hz, how, got, fault, want, wantFault)
				}
			}
		}
	}
}

// Products that lie beside Max by less than one: only what is rounded passes it.
func TestTicksAboutMax(t *testing.T) {
	for _, c := range []struct {
		x               float64
		hz              int64
		down, up, about int64 // 0: above Max
	}{
		{6442450941, 715827883, api.Max, api.Max, api.Max},  // Max
		{364870227143809.0 / 4, 50557, api.Max, 0, api.Max}, // Max + 1/4
		{14197294936951.0 / 2, 649657, api.Max, 0, 0},       // Max + 1/2, a tie
		{2753074036095.0 / 4, 6700417, api.Max, 0, 0},       // Max + 3/4
		{0x1p53, 1 << 9, 0, 0, 0},                           // Max + 1
		{0x1.fffffffffffffp52, 1 << 9, 1<<62 - 512, 1<<62 - 512, 1<<62 - 512},
	} {
		for how, want := range []int64{c.down, c.up, c.about} {
			wantFault := api.OK
			if want == 0 {
				wantFault = api.ErrRange
			}
			if got, fault := Ticks(c.x, c.hz, how); got != want || fault != wantFault {
				t.Errorf("Ticks(%x, %d, %d) = %d, %d", c.x, c.hz, how, got, fault)
			}
		}
	}
}

// P3.3

// wantRatio: a / b by rational numbers. b is not 0.
func wantRatio(a, b int64) float64 {
	x, _ := new(big.Rat).SetFrac(big.NewInt(a), big.NewInt(b)).Float64()
	return x
}

func TestRatio(t *testing.T) {
	for _, c := range []struct {
		a, b  int64
		want  float64
		fault api.Errno
	}{
		{-1, 2, -0.5, api.OK},
		{1, -2, -0.5, api.OK},
		{-1, -2, 0.5, api.OK},
		{1, 3, 0.3333333333333333, api.OK},
		{0, -5, 0, api.OK},
		{0, 5, 0, api.OK},
		{0, math.MinInt64, 0, api.OK},
		{math.MaxInt64, 1, 9223372036854775808, api.OK},
		{math.MinInt64, 1, -9223372036854775808, api.OK},
		{math.MinInt64, -1, 9223372036854775808, api.OK},
		{math.MinInt64, math.MinInt64, 1, api.OK},
		{1, math.MinInt64, -0x1p-63, api.OK},
		{1<<53 + 1, 1, 1 << 53, api.OK},
		{1<<53 + 3, 1, 1<<53 + 4, api.OK},
		{(1<<53+1)*512 + 1, 512, 1<<53 + 2, api.OK},
		{(1<<53+3)*512 - 1, 512, 1<<53 + 2, api.OK},
		{1, 0, 0, api.ErrRange},
		{0, 0, 0, api.ErrRange},
		{math.MinInt64, 0, 0, api.ErrRange},
	} {
		if got, fault := Ratio(c.a, c.b); !one(got, c.want) || fault != c.fault {
			t.Errorf("Ratio(%d, %d) = %x, %d", c.a, c.b, got, fault)
		}
	}
}

var wholes = []int64{
	math.MinInt64, math.MinInt64 + 1, -api.Max, -1 << 53, -1000, -3, -2, -1, 0, 1, 2, 3, 5, 7, 10, 1000, 1<<31 - 1, 999999937, api.MaxHz,
	1<<53 - 1, 1 << 53, 1<<53 + 1, 1<<54 + 1, 1<<54 + 2, 1<<54 + 3, 1<<61 + 255, 1<<61 + 257, api.Max - 1, api.Max, api.Max + 1,
	1<<63 - 513, 1<<63 - 512, math.MaxInt64 - 1, math.MaxInt64,
}

func checkRatio(t *testing.T, a, b int64) {
	want, wantFault := 0.0, api.ErrRange
	if b != 0 {
		want, wantFault = wantRatio(a, b), api.OK
	}
	if got, fault := Ratio(a, b); !one(got, want) || fault != wantFault {
		t.Errorf("Ratio(%d, %d) = %x, %d, not %x", a, b, got, fault, want)
	}
}

func TestRatioIsNearest(t *testing.T) {
	for _, a := range wholes {
		for _, b := range wholes {
			checkRatio(t, a, b)
		}
	}
	d := dice(3)
	for range 20000 {
		a, b := int64(d.next()), int64(d.next())
		checkRatio(t, a>>(d.next()%63), b>>(d.next()%63))
	}
}

// Quotients that lie beside a tie by less than a bit of 128 of them.
func TestRatioBesideTies(t *testing.T) {
	d := dice(4)
	for range 5000 {
		tie := 1<<53 | d.next()>>11 | 1
		inverse := tie
		for range 5 {
			inverse *= 2 - tie*inverse
		}
		for _, c := range []struct{ b, off uint64 }{{-inverse, 1}, {inverse, math.MaxUint64}} {
			// tie * b + off is a multiple of 2^53, and a is which one.
			b := c.b & (1<<53 - 1)
			sum := new(big.Int).SetUint64(tie)
			sum.Mul(sum, new(big.Int).SetUint64(b)).Add(sum, big.NewInt(int64(c.off)))
			a := new(big.Int).Rsh(sum, 53)
			if new(big.Int).Lsh(a, 53).Cmp(sum) != 0 {
				t.Fatalf("%d, %d", tie, b)
			}
			if b != 0 {
				checkRatio(t, a.Int64(), int64(b))
				checkRatio(t, -a.Int64(), int64(b))
			}
		}
	}
}

func TestSeconds(t *testing.T) {
	for _, c := range []struct {
		t, hz int64
		want  float64
		fault api.Errno
	}{
		{1, 3, 0.3333333333333333, api.OK},
		{0, 9, 0, api.OK},
		{2500, 1000, 2.5, api.OK},
		{1, api.MaxHz, 1e-9, api.OK},
		{api.Max, 1, 0x1p62, api.OK},
		{api.Max, api.MaxHz, 4611686018.427388, api.OK},
		{1<<53 + 1, 1, 1 << 53, api.OK},
		{-1, 1, 0, api.ErrArg},
		{math.MinInt64, 1, 0, api.ErrArg},
		{api.Max + 1, 1, 0, api.ErrArg},
		{math.MaxInt64, 1, 0, api.ErrArg},
		{1, 0, 0, api.ErrArg},
		{0, 0, 0, api.ErrArg},
		{1, -1, 0, api.ErrArg},
		{1, api.MaxHz + 1, 0, api.ErrArg},
		{1, math.MinInt64, 0, api.ErrArg},
		{1, math.MaxInt64, 0, api.ErrArg},
	} {
		if got, fault := Seconds(c.t, c.hz); !one(got, c.want) || fault != c.fault {
			t.Errorf("Seconds(%d, %d) = %x, %d", c.t, c.hz, got, fault)
		}
	}
	d := dice(5)
	for range 5000 {
		n, hz := int64(d.next()>>2), int64(d.next()%api.MaxHz)+1
		if got, fault := Seconds(n, hz); !one(got, wantRatio(n, hz)) || fault != api.OK {
			t.Errorf("Seconds(%d, %d) = %x, %d", n, hz, got, fault)
		}
	}
}

// P3.4

func checkPair(t *testing.T, x, y float64, want int) {
	if got := Order(x, y); got != want {
		t.Errorf("Order(%x, %x) = %d, not %d", bitsOf(x), bitsOf(y), got, want)
	}
	if got := Same(x, y); got != (want == 0) {
		t.Errorf("Same(%x, %x) = %v", bitsOf(x), bitsOf(y), got)
	}
}

func TestOrderAndSame(t *testing.T) {
	for i, x := range rising {
		for j, y := range rising {
			want := 0
			if i < j {
				want = -1
			}
			if i > j {
				want = 1
			}
			checkPair(t, x, y, want)
		}
		for _, y := range nans {
			checkPair(t, x, y, -1)
			checkPair(t, y, x, 1)
		}
	}
	for _, x := range nans {
		for _, y := range nans {
			checkPair(t, x, y, 0)
		}
	}
}

func TestLeastAndMost(t *testing.T) {
	for i, x := range rising {
		for j, y := range rising {
			if got, want := Least(x, y), rising[min(i, j)]; !one(got, want) {
				t.Errorf("Least(%x, %x) = %x", x, y, got)
			}
			if got, want := Most(x, y), rising[max(i, j)]; !one(got, want) {
				t.Errorf("Most(%x, %x) = %x", x, y, got)
			}
		}
		for _, y := range nans {
			for _, got := range []float64{Least(x, y), Least(y, x), Most(x, y), Most(y, x)} {
				if !one(got, x) {
					t.Errorf("%x beside the NaN %x: %x", x, bitsOf(y), got)
				}
			}
		}
	}
	for _, x := range nans {
		for _, y := range nans {
			if Least(x, y) == Least(x, y) || Most(x, y) == Most(x, y) {
				t.Errorf("two NaNs, %x and %x, gave a number", bitsOf(x), bitsOf(y))
			}
		}
	}
}
