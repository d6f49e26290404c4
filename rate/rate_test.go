package rate

import (
	"math"
	"math/big"
	"testing"

	"spigot/api"
)

var (
	nan      = math.NaN()
	infinity = math.Inf(1)
	minus0   = math.Copysign(0, -1)
)

// dice are numbers that look thrown, and are the same in each run.
type dice uint64

func (d *dice) next() uint64 {
	*d = *d*6364136223846793005 + 1442695040888963407
	x := uint64(*d)
	return (x ^ x>>29) * 0x9e3779b97f4a7c15
}

// above0: a number above 0 with any fraction, and an exponent from low to high.
func (d *dice) above0(low, high int) float64 {
	exponent := uint64(low+1023) + d.next()%uint64(high-low+1)
	return math.Float64frombits(d.next()>>12 | exponent<<52)
}

// P4.1

// wantLimit: what Of answers, by rational numbers, of an Hz in form.
func wantLimit(r Rate) (api.Limit, api.Errno) {
	if r.PerSecond != r.PerSecond || r.Burst != r.Burst {
		return api.Limit{}, api.ErrNaN
	}
	if math.IsInf(r.PerSecond, 0) || math.IsInf(r.Burst, 0) || r.PerSecond <= 0 || r.Burst < 0 {
		return api.Limit{}, api.ErrRange
	}
	gap := new(big.Rat).SetInt64(r.Hz)
	gap.Quo(gap, new(big.Rat).SetFloat64(r.PerSecond))
	t, rest := new(big.Int).QuoRem(gap.Num(), gap.Denom(), new(big.Int))
	if rest.Sign() > 0 {
		t.Add(t, big.NewInt(1))
	}
	ahead := new(big.Rat).SetInt(t)
	ahead.Mul(ahead, new(big.Rat).SetFloat64(r.Burst))
	tau := new(big.Int).Quo(ahead.Num(), ahead.Denom())
	most := big.NewInt(api.Max)
	if t.Cmp(most) > 0 || tau.Cmp(most) > 0 {
		return api.Limit{}, api.ErrRange
	}
	return api.Limit{T: t.Int64(), Tau: tau.Int64()}, api.OK
}

func TestOf(t *testing.T) {
	const Max = 4611686018427387903
	for _, c := range []struct {
		r     Rate
		want  api.Limit
		fault api.Errno
	}{
		{Rate{2.5, 3, 1000}, api.Limit{T: 400, Tau: 1200}, api.OK},
		{Rate{3, 0, 1000}, api.Limit{T: 334, Tau: 0}, api.OK},
		{Rate{1e300, 1, 1}, api.Limit{T: 1, Tau: 1}, api.OK},
		{Rate{0.1, 0.5, 10}, api.Limit{T: 100, Tau: 50}, api.OK},
		{Rate{1, minus0, 1}, api.Limit{T: 1, Tau: 0}, api.OK},
		{Rate{math.MaxFloat64, 0.999, api.MaxHz}, api.Limit{T: 1, Tau: 0}, api.OK},
		{Rate{1e9, 0, api.MaxHz}, api.Limit{T: 1}, api.OK},
		{Rate{0x1.dcd64ffffffffp29, 0, api.MaxHz}, api.Limit{T: 2}, api.OK}, // the number below 1e9
		{Rate{2, 0, 3}, api.Limit{T: 2}, api.OK},
		{Rate{4, 1.75, 10}, api.Limit{T: 3, Tau: 5}, api.OK},
		{Rate{1, 0x1p-1074, api.MaxHz}, api.Limit{T: api.MaxHz}, api.OK},
		// T and Tau at Max, and above it.
		{Rate{0x1p-61, 1, 1}, api.Limit{T: 1 << 61, Tau: 1 << 61}, api.OK},
		{Rate{0x1p-61, 0x1.fffffffffffffp0, 1}, api.Limit{T: 1 << 61, Tau: Max - 511}, api.OK},
		{Rate{0x1p-61, 2, 1}, api.Limit{}, api.ErrRange},
		{Rate{0x1p-62, 0, 1}, api.Limit{}, api.ErrRange},
		{Rate{0x1.0000000000001p-62, 0, 1}, api.Limit{T: 1<<62 - 1024 + 1}, api.OK},
		{Rate{0x1p-33, 0, 1 << 29}, api.Limit{}, api.ErrRange},
		{Rate{1, 0x1.fffffffffffffp61, 1}, api.Limit{T: 1, Tau: Max - 511}, api.OK},
		{Rate{1, 6442450941, 715827883}, api.Limit{T: 715827883, Tau: Max}, api.OK},
		{Rate{1, 14197294936951.0 / 2, 649657}, api.Limit{T: 649657, Tau: Max}, api.OK}, // Max + 1/2, rounded down
		{Rate{1, 0x1p62, 1}, api.Limit{}, api.ErrRange},
		{Rate{1e300, 1e300, 1}, api.Limit{}, api.ErrRange},
		{Rate{1, math.MaxFloat64, 1}, api.Limit{}, api.ErrRange},
		{Rate{1e-300, 0, 1}, api.Limit{}, api.ErrRange},
		{Rate{0x1p-1074, 0, api.MaxHz}, api.Limit{}, api.ErrRange},
		// What is no rate.
		{Rate{0, 1, 1}, api.Limit{}, api.ErrRange},
		{Rate{minus0, 1, 1}, api.Limit{}, api.ErrRange},
		{Rate{-1, 1, 1}, api.Limit{}, api.ErrRange},
		{Rate{-0x1p-1074, 1, 1}, api.Limit{}, api.ErrRange},
		{Rate{infinity, 1, 1}, api.Limit{}, api.ErrRange},
		{Rate{-infinity, 1, 1}, api.Limit{}, api.ErrRange},
		{Rate{1, -1, 1}, api.Limit{}, api.ErrRange},
		{Rate{1, -0x1p-1074, 1}, api.Limit{}, api.ErrRange},
		{Rate{1, infinity, 1}, api.Limit{}, api.ErrRange},
		{Rate{1, -infinity, 1}, api.Limit{}, api.ErrRange},
		{Rate{nan, 1, 1}, api.Limit{}, api.ErrNaN},
		{Rate{1, nan, 1}, api.Limit{}, api.ErrNaN},
		{Rate{0, nan, 1}, api.Limit{}, api.ErrNaN},
		{Rate{infinity, nan, 1}, api.Limit{}, api.ErrNaN},
		{Rate{nan, -1, 1}, api.Limit{}, api.ErrNaN},
		{Rate{nan, infinity, 1}, api.Limit{}, api.ErrNaN},
		{Rate{0x1p-1074, nan, 1}, api.Limit{}, api.ErrNaN},
		{Rate{1, 1, 0}, api.Limit{}, api.ErrArg},
		{Rate{1, 1, -1}, api.Limit{}, api.ErrArg},
		{Rate{1, 1, api.MaxHz + 1}, api.Limit{}, api.ErrArg},
		{Rate{1, 1, math.MaxInt64}, api.Limit{}, api.ErrArg},
		{Rate{1, 1, math.MinInt64}, api.Limit{}, api.ErrArg},
		{Rate{nan, nan, 0}, api.Limit{}, api.ErrArg},
		{Rate{0, infinity, 0}, api.Limit{}, api.ErrArg},
	} {
		if got, fault := Of(c.r); got != c.want || fault != c.fault {
			t.Errorf("Of(%x) = %d, %d, not %d, %d", c.r, got, fault, c.want, c.fault)
		}
	}
}

// about: x and the float64s beside it.
func about(x float64) []float64 {
	return []float64{math.Nextafter(x, 0), x, math.Nextafter(x, infinity)}
}

func checkOf(t *testing.T, r Rate) {
	want, wantFault := wantLimit(r)
	if got, fault := Of(r); got != want || fault != wantFault {
		t.Errorf("Of(%x) = %d, %d, not %d, %d", r, got, fault, want, wantFault)
	}
}

func TestOfIsTrue(t *testing.T) {
	special := []float64{0, minus0, -1, nan, infinity, 0x1p-1074, 0x1p-1022, math.MaxFloat64, 1e-300, 1e300}
	for _, hz := range []int64{1, 2, 3, 10, 1000, 999999937, api.MaxHz} {
		paces, bursts := special, special
		for _, x := range []float64{0x1p-62, 0x1p-61, 0x1p-33, 0.1, 1.0 / 3, 1, 2.5, 3, 1000, float64(hz), float64(hz) / 3, float64(hz) / 0x1p61, float64(hz) / 0x1p62} {
			paces = append(paces, about(x)...)
		}
		for _, x := range []float64{0.1, 0.5, 1, 1.5, 3, 1000, 0x1p20, 0x1p52, 0x1p61, 0x1p62} {
			bursts = append(bursts, about(x)...)
		}
		for _, pace := range paces {
			for _, burst := range bursts {
				checkOf(t, Rate{pace, burst, hz})
			}
		}
	}
}

func TestOfManyRates(t *testing.T) {
	d := dice(1)
	for range 20000 {
		hz := int64(d.next()%api.MaxHz) + 1
		checkOf(t, Rate{d.above0(-40, 40), d.above0(-20, 40), hz})
		checkOf(t, Rate{d.above0(-1022, 1023), d.above0(-1022, 1023), hz})
		// Quotients that come out even, or nearly so.
		checkOf(t, Rate{float64(hz) / float64(d.next()%1000+1), float64(d.next()%100) / 8, hz})
	}
}

// P4.2

var (
	limits = []api.Limit{
		{T: 1}, {T: 1, Tau: api.Max}, {T: 10, Tau: 20}, {T: 400, Tau: 1200}, {T: 3, Tau: 8}, {T: 3, Tau: 9}, {T: 3, Tau: 10},
		{T: api.Max}, {T: api.Max, Tau: api.Max - 1}, {T: api.Max, Tau: api.Max}, {T: 1 << 53, Tau: 1 << 61}, {T: 1<<54 + 3, Tau: 1},
	}
	noLimits = []api.Limit{
		{}, {Tau: 1}, {T: -1}, {T: math.MinInt64}, {T: api.Max + 1}, {T: math.MaxInt64},
		{T: 1, Tau: -1}, {T: 1, Tau: math.MinInt64}, {T: 1, Tau: api.Max + 1}, {T: 1, Tau: math.MaxInt64}, {T: -1, Tau: -1},
	}
	noHz = []int64{0, -1, math.MinInt64, api.MaxHz + 1, math.MaxInt64}
)

func TestCheck(t *testing.T) {
	for _, l := range limits {
		if fault := Check(l); fault != api.OK {
			t.Errorf("Check(%d) = %d", l, fault)
		}
	}
	for _, l := range noLimits {
		if fault := Check(l); fault != api.ErrArg {
			t.Errorf("Check(%d) = %d", l, fault)
		}
	}
}

// P4.3

func TestReal(t *testing.T) {
	for _, c := range []struct {
		l    api.Limit
		hz   int64
		want float64
	}{
		{api.Limit{T: 400}, 1000, 2.5},
		{api.Limit{T: 400, Tau: 1200}, 1000, 2.5},
		{api.Limit{T: 3}, 1, 0.3333333333333333},
		{api.Limit{T: 1}, api.MaxHz, 1e9},
		{api.Limit{T: api.Max}, 1, 0x1p-62},
	} {
		if got, fault := Real(c.l, c.hz); got != c.want || fault != api.OK {
			t.Errorf("Real(%d, %d) = %x, %d", c.l, c.hz, got, fault)
		}
	}
	for _, l := range limits {
		for _, hz := range []int64{1, 3, 1000, 999999937, api.MaxHz} {
			want, _ := big.NewRat(hz, l.T).Float64()
			if got, fault := Real(l, hz); got != want || fault != api.OK {
				t.Errorf("Real(%d, %d) = %x, %d", l, hz, got, fault)
			}
		}
		for _, hz := range noHz {
			if got, fault := Real(l, hz); math.Float64bits(got) != 0 || fault != api.ErrArg {
				t.Errorf("Real(%d, %d) = %x, %d", l, hz, got, fault)
			}
		}
	}
	for _, l := range noLimits {
		if got, fault := Real(l, 1); math.Float64bits(got) != 0 || fault != api.ErrArg {
			t.Errorf("Real(%d, 1) = %x, %d", l, got, fault)
		}
	}
}

func TestOnce(t *testing.T) {
	for _, c := range []struct {
		l    api.Limit
		want int64
	}{
		{api.Limit{T: 400, Tau: 1200}, 4},
		{api.Limit{T: 400, Tau: 1199}, 3},
		{api.Limit{T: 1}, 1},
		{api.Limit{T: 10, Tau: 9}, 1},
		{api.Limit{T: api.Max, Tau: api.Max}, 2},
		{api.Limit{T: api.Max, Tau: api.Max - 1}, 1},
		{api.Limit{T: 1, Tau: api.Max}, api.Max + 1},
	} {
		if got, fault := Once(c.l); got != c.want || fault != api.OK {
			t.Errorf("Once(%d) = %d, %d", c.l, got, fault)
		}
	}
	for _, l := range noLimits {
		if got, fault := Once(l); got != 0 || fault != api.ErrArg {
			t.Errorf("Once(%d) = %d, %d", l, got, fault)
		}
	}
}

func TestWithin(t *testing.T) {
	for _, c := range []struct {
		l    api.Limit
		span int64
		want int64
	}{
		{api.Limit{T: 400, Tau: 1200}, 800, 6},
		{api.Limit{T: 400, Tau: 1200}, 799, 5},
		{api.Limit{T: 400, Tau: 1200}, 0, 4},
		{api.Limit{T: 1}, 0, 1},
		{api.Limit{T: 1, Tau: api.Max}, api.Max, 9223372036854775807},
		{api.Limit{T: 2, Tau: api.Max}, api.Max, 1 << 62},
	} {
		if got, fault := Within(c.l, c.span); got != c.want || fault != api.OK {
			t.Errorf("Within(%d, %d) = %d, %d", c.l, c.span, got, fault)
		}
	}
	for _, l := range limits {
		for _, span := range []int64{0, 1, 2, 399, 400, 401, 1 << 53, api.Max - 1, api.Max} {
			want := new(big.Int).Add(big.NewInt(span), big.NewInt(l.Tau))
			want.Quo(want, big.NewInt(l.T)).Add(want, big.NewInt(1))
			if got, fault := Within(l, span); big.NewInt(got).Cmp(want) != 0 || fault != api.OK {
				t.Errorf("Within(%d, %d) = %d, %d", l, span, got, fault)
			}
		}
		for _, span := range []int64{-1, math.MinInt64, api.Max + 1, math.MaxInt64} {
			if got, fault := Within(l, span); got != 0 || fault != api.ErrArg {
				t.Errorf("Within(%d, %d) = %d, %d", l, span, got, fault)
			}
		}
	}
	for _, l := range noLimits {
		if got, fault := Within(l, 5); got != 0 || fault != api.ErrArg {
			t.Errorf("Within(%d, 5) = %d, %d", l, got, fault)
		}
	}
}
