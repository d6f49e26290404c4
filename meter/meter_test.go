package meter

import (
	"go/ast"
	"go/parser"
	"go/token"
	"math"
	"math/big"
	"slices"
	"testing"

	"spigot/api"
)

const ends = math.MaxFloat64

var (
	minus0 = math.Copysign(0, -1)
	inf    = math.Inf(1)
	nan    = math.NaN()
	// nans of both signs, quiet ones and others.
	nans = []float64{nan, math.Float64frombits(0x7ff0000000000001), math.Float64frombits(0xfff8000000000000), math.Float64frombits(0xffffffffffffffff)}
	// edges are no NaNs.
	edges = []float64{
		-inf, -ends, -0x1p1000, -0x1p53, -3, -1.5, -1, -0.1, -0x1p-1022, -0x1p-1074, minus0,
		0, 0x1p-1074, 0x1p-1022, 0x1p-53, 0.1, 1.0 / 3, 0.5, 1, 1.5, 2, 3, 1e9, 0x1p53 - 1, 0x1p53, 0x1p53 + 2, 1e300, 0x1p1000, ends, inf,
	}
)

// one: are x and y the same, bit by bit, or both NaNs?
func one(x, y float64) bool {
	return math.Float64bits(x) == math.Float64bits(y) || x != x && y != y
}

func same(a, b Meter) bool {
	return a.N == b.N && a.Bad == b.Bad && one(a.Sum, b.Sum) && one(a.Lost, b.Lost) &&
		one(a.Low, b.Low) && one(a.High, b.High) && one(a.Mean, b.Mean) && one(a.Spread, b.Spread)
}

// exact: may x stand among big numbers, where a nought has no sign?
func exact(x float64) bool { return x-x == 0 && x != 0 }

// do is one step: true, by big numbers, and rounded then. (Beside them there is
// nothing to round.)
func do(x float64, op byte, y float64) float64 {
	if !exact(x) || !exact(y) {
		return plain(x, op, y)
	}
	a, b := new(big.Rat).SetFloat64(x), new(big.Rat).SetFloat64(y)
	switch op {
	case '+':
		a.Add(a, b)
	case '-':
		a.Sub(a, b)
	case '*':
		a.Mul(a, b)
	case '/':
		a.Quo(a, b)
	}
	z, _ := a.Float64()
	return z
}

func plain(x float64, op byte, y float64) float64 {
	switch op {
	case '+':
		return x + y
	case '-':
		return x - y
	case '*':
		return float64(x * y)
	}
	return x / y
}

// dice are numbers that look thrown, and are the same in each run.
type dice uint64

func (d *dice) next() uint64 {
	*d = *d*6364136223846793005 + 1442695040888963407
	x := uint64(*d)
	return (x ^ x>>29) * 0x9e3779b97f4a7c15
}

// finite: a number with any sign and fraction, and an exponent from low to high.
func (d *dice) finite(low, high int) float64 {
	exponent := uint64(low+1023) + d.next()%uint64(high-low+1)
	return math.Float64frombits(d.next()&(1<<63|1<<52-1) | exponent<<52)
}

// any: mostly numbers near 1, sometimes one of all, an edge or a NaN.
func (d *dice) any() float64 {
	switch d.next() % 16 {
	case 0:
		return math.Float64frombits(d.next())
	case 1, 2:
		return edges[d.next()%uint64(len(edges))]
	case 3:
		return nans[d.next()%uint64(len(nans))]
	}
	return d.finite(-30, 30)
}

// meter: of any fields, most of them in bounds.
func (d *dice) meter() Meter {
	count := func() int { return int(d.next() >> 11 >> (d.next() % 54)) }
	return Meter{count(), count(), d.any(), d.any(), d.any(), d.any(), d.any(), d.any()}
}

// least: the lesser one, -0 ahead of +0; a NaN gives way.
func least(x, y float64) float64 {
	switch {
	case x != x:
		return y
	case y != y:
		return x
	}
	return math.Min(x, y)
}

func most(x, y float64) float64 {
	switch {
	case x != x:
		return y
	case y != y:
		return x
	}
	return math.Max(x, y)
}

// P8.1

func TestNew(t *testing.T) {
	if got := New(); !same(got, Meter{Sum: minus0, Low: inf, High: -inf}) {
		t.Errorf("New() = %v", got)
	}
}

// P8.2

// wantAdd: the chapter's words, step by step.
func wantAdd(m Meter, x float64) Meter {
	if x != x {
		m.Bad++
		return m
	}
	s := do(m.Sum, '+', x)
	lost := do(m.Lost, '+', do(do(x, '-', s), '+', m.Sum))
	if math.Abs(m.Sum) >= math.Abs(x) {
		lost = do(m.Lost, '+', do(do(m.Sum, '-', s), '+', x))
	}
	if s-s != 0 {
		lost = m.Lost
	}
	n := float64(m.N + 1)
	d := do(x, '-', m.Mean)
	mean := do(m.Mean, '+', do(d, '/', n))
	spread := do(m.Spread, '+', do(d, '*', do(x, '-', mean)))
	return Meter{m.N + 1, m.Bad, s, lost, least(m.Low, x), most(m.High, x), mean, spread}
}

func checkAdd(t *testing.T, m Meter, x float64, want Meter) {
	t.Helper()
	if got := Add(m, x); !same(got, want) {
		t.Errorf("Add(%v, %x) = %v, not %v", m, x, got, want)
	}
}

func TestAdd(t *testing.T) {
	for _, c := range []struct {
		m    Meter
		x    float64
		want Meter
	}{
		{New(), 1, Meter{1, 0, 1, 0, 1, 1, 1, 0}},
		{Meter{1, 0, 1, 0, 1, 1, 1, 0}, 2, Meter{2, 0, 3, 0, 1, 2, 1.5, 0.5}},
		{New(), minus0, Meter{1, 0, minus0, 0, minus0, minus0, 0, 0}},
		{New(), 0, Meter{1, 0, 0, 0, 0, 0, 0, 0}},
		{New(), inf, Meter{1, 0, inf, 0, inf, inf, inf, nan}},
		{New(), -inf, Meter{1, 0, -inf, 0, -inf, -inf, -inf, nan}},
		// -0 stands ahead of +0.
		{Meter{N: 1}, minus0, Meter{2, 0, 0, 0, minus0, 0, 0, 0}},
		{Meter{N: 1, Sum: minus0, Low: minus0, High: minus0}, 0, Meter{2, 0, 0, 0, minus0, 0, 0, 0}},
		// What is lost is of the lesser of both, whichever it is.
		{Meter{N: 1, Sum: 1, Mean: 1}, 0x1p53, Meter{2, 0, 0x1p53, 1, 0, 0x1p53, 0x1p52, 0x1.fffffffffffffp104}},
		{Meter{N: 1, Sum: 0x1p53, Mean: 1}, 1, Meter{2, 0, 0x1p53, 1, 0, 1, 1, 0}},
		{Meter{N: 1, Sum: 0x1p53, Lost: 1, Mean: 1}, -1, Meter{2, 0, 0x1p53 - 1, 1, -1, 0, 0, 2}},
		{Meter{N: 1, Sum: -0x1p53, Lost: -3, Mean: 1}, -1, Meter{2, 0, -0x1p53, -4, -1, 0, 0, 2}},
		// Lost stays where the sum is infinite, or none.
		{Meter{N: 1, Sum: ends, Lost: 5}, ends, Meter{2, 0, inf, 5, 0, ends, ends / 2, inf}},
		{Meter{N: 1, Sum: inf, Lost: 5, Mean: 1}, 1, Meter{2, 0, inf, 5, 0, 1, 1, 0}},
		{Meter{N: 1, Sum: -inf, Lost: minus0, Mean: 1}, 1, Meter{2, 0, -inf, minus0, 0, 1, 1, 0}},
		{Meter{N: 1, Sum: inf, Lost: -5}, -inf, Meter{2, 0, nan, -5, -inf, 0, -inf, nan}},
		{Meter{N: 1, Sum: nan, Lost: minus0, Mean: 1}, 1, Meter{2, 0, nan, minus0, 0, 1, 1, 0}},
		{Meter{N: 1, Lost: minus0, Mean: 1}, 1, Meter{2, 0, 1, 0, 0, 1, 1, 0}},
		{Meter{N: 1, Lost: nan, Mean: 1}, 1, Meter{2, 0, 1, nan, 0, 1, 1, 0}},
		{Meter{N: 1, Low: nan, High: nan, Mean: 1}, 1, Meter{2, 0, 1, 0, 1, 1, 1, 0}},
		// The new N divides, and the new Mean spreads.
		{Meter{N: 3, Mean: 2}, 6, Meter{4, 0, 6, 0, 0, 6, 3, 12}},
		{Meter{N: -1, Mean: 1}, 2, Meter{0, 0, 2, 0, 0, 2, inf, -inf}},
		{Meter{N: -3, Bad: -2, Mean: 1}, 3, Meter{-2, -2, 3, 0, 0, 3, 0, 6}},
	} {
		checkAdd(t, c.m, c.x, c.want)
	}
}

// A NaN is counted, and changes nothing else.
func TestAddNaN(t *testing.T) {
	for _, m := range []Meter{
		New(), {}, {1, 2, 3, 4, 5, 6, 7, 8}, {-1, -1, nan, nan, nan, nan, nan, nan}, {9, 0, inf, minus0, -inf, inf, minus0, minus0},
	} {
		want := m
		want.Bad++
		for _, x := range nans {
			checkAdd(t, m, x, want)
		}
	}
}

func TestAddToAny(t *testing.T) {
	d := dice(1)
	for range 20000 {
		m, x := d.meter(), d.any()
		if d.next()%8 == 0 {
			m.N = -m.N
		}
		if d.next()%4 == 0 {
			x = m.Mean
		}
		checkAdd(t, m, x, wantAdd(m, x))
	}
	for _, x := range edges {
		for _, y := range edges {
			m := Meter{1, 0, y, 0, y, y, y, 0}
			checkAdd(t, m, x, wantAdd(m, x))
			m = Meter{5, 5, y, minus0, nan, nan, 0.1, minus0}
			checkAdd(t, m, x, wantAdd(m, x))
		}
	}
	for _, n := range []int{math.MaxInt - 1, math.MaxInt, math.MinInt, -2, -1, 0, 1 << 53, 1<<53 + 1} {
		m := Meter{N: n, Bad: n, Mean: 0.1}
		checkAdd(t, m, 7, wantAdd(m, 7))
		checkAdd(t, m, nan, wantAdd(m, nan))
	}
}

// P8.3

func TestOf(t *testing.T) {
	for _, c := range []struct {
		list []float64
		want Meter
	}{
		{nil, New()},
		{[]float64{}, New()},
		{[]float64{1, 2}, Meter{2, 0, 3, 0, 1, 2, 1.5, 0.5}},
		{[]float64{1, nan, 2, nan}, Meter{2, 2, 3, 0, 1, 2, 1.5, 0.5}},
		{[]float64{minus0}, Meter{1, 0, minus0, 0, minus0, minus0, 0, 0}},
		{[]float64{minus0, minus0}, Meter{2, 0, minus0, 0, minus0, minus0, 0, 0}},
		{[]float64{nan}, Meter{0, 1, minus0, 0, inf, -inf, 0, 0}},
		{[]float64{inf, 1}, Meter{2, 0, inf, 0, 1, inf, nan, nan}},
	} {
		if got, fault := Of(c.list); !same(got, c.want) || fault != api.OK {
			t.Errorf("Of(%v) = %v, %d, not %v", c.list, got, fault, c.want)
		}
	}
	if got, fault := Of([]float64{1, 0x1p53, 1}); got.Sum != 0x1p53 || got.Lost != 2 || fault != api.OK {
		t.Errorf("Of(1, 2^53, 1) = %v, %d", got, fault)
	}
}

func TestOfAny(t *testing.T) {
	d := dice(2)
	for n := range 200 {
		list := make([]float64, n)
		want := New()
		for i := range list {
			list[i] = d.finite(-30, 30)
			if n%3 == 0 {
				list[i] = d.any()
			}
			want = wantAdd(want, list[i])
		}
		if got, fault := Of(list); !same(got, want) || fault != api.OK {
			t.Errorf("Of(%v) = %v, %d, not %v", list, got, fault, want)
		}
	}
}

func TestOfLong(t *testing.T) {
	list := slices.Repeat([]float64{1}, 4096)
	if got, fault := Of(list); !same(got, Meter{4096, 0, 4096, 0, 1, 1, 1, 0}) || fault != api.OK {
		t.Errorf("Of 4096 = %v, %d", got, fault)
	}
	for _, long := range [][]float64{append(list, 1), append(list, nan), slices.Repeat(list, 5)} {
		if got, fault := Of(long); !same(got, Meter{}) || fault != api.ErrLong {
			t.Errorf("Of %d = %v, %d", len(long), got, fault)
		}
	}
}

func TestTotal(t *testing.T) {
	for _, c := range []struct {
		m    Meter
		want float64
	}{
		{New(), minus0},
		{Meter{}, 0},
		{Meter{Sum: 3, Lost: 2}, 5},
		{Meter{Sum: 0x1p53, Lost: 1}, 0x1p53},
		{Meter{Sum: 0x1p53, Lost: 2}, 0x1p53 + 2},
		{Meter{Sum: 0x1p53, Lost: 3}, 0x1p53 + 4},
		{Meter{Sum: minus0, Lost: 0}, minus0},
		{Meter{Sum: minus0, Lost: minus0}, minus0},
		{Meter{Sum: 0, Lost: minus0}, 0},
		{Meter{Sum: minus0, Lost: 1}, 1},
		{Meter{Sum: 1, Lost: -1}, 0},
		{Meter{Sum: 7, Lost: 0}, 7},
		{Meter{Sum: 1, Lost: 0x1p-1074}, 1},
		{Meter{Sum: inf, Lost: 0}, inf},
		{Meter{Sum: inf, Lost: -inf}, nan},
		{Meter{Sum: nan, Lost: 0}, nan},
		{Meter{Sum: 1, Lost: nan}, nan},
		{Meter{Sum: ends, Lost: ends}, inf},
		// The other fields are not looked at.
		{Meter{N: -1, Bad: -1, Sum: 3, Lost: 2, Low: nan, High: nan, Mean: nan, Spread: nan}, 5},
	} {
		if got := Total(c.m); !one(got, c.want) {
			t.Errorf("Total(%v) = %x, not %x", c.m, got, c.want)
		}
	}
}

// What was lost comes back: the total is nearer to the true sum than the sum is.
func TestTotalIsNear(t *testing.T) {
	d := dice(3)
	for range 100 {
		list := make([]float64, 500)
		sum, size := new(big.Rat), 0.0
		for i := range list {
			list[i] = d.finite(-20, 60)
			sum.Add(sum, new(big.Rat).SetFloat64(list[i]))
			size += math.Abs(list[i])
		}
		m, _ := Of(list)
		want, _ := sum.Float64()
		if off := math.Abs(Total(m) - want); off > math.Abs(want)*0x1p-52+size*0x1p-88 {
			t.Errorf("Total is %x, not %x", Total(m), want)
		}
	}
}

// P8.4

// wantMerge: the chapter's words, of counts that are in bounds.
func wantMerge(a, b Meter) Meter {
	m := a
	switch {
	case a.N == 0:
		m = b
	case b.N != 0:
		m = wantFigures(a, b)
	}
	m.N, m.Bad = a.N+b.N, a.Bad+b.Bad
	return m
}

func wantFigures(a, b Meter) Meter {
	s := do(a.Sum, '+', b.Sum)
	e := do(do(b.Sum, '-', s), '+', a.Sum)
	if math.Abs(a.Sum) >= math.Abs(b.Sum) {
		e = do(do(a.Sum, '-', s), '+', b.Sum)
	}
	if s-s != 0 {
		e = 0
	}
	n, k, t := float64(a.N), float64(b.N), float64(a.N+b.N)
	d := do(b.Mean, '-', a.Mean)
	return Meter{
		Sum: s, Lost: do(do(a.Lost, '+', b.Lost), '+', e),
		Low: least(a.Low, b.Low), High: most(a.High, b.High),
		Mean:   do(a.Mean, '+', do(d, '*', do(k, '/', t))),
		Spread: do(do(a.Spread, '+', b.Spread), '+', do(do(d, '*', d), '*', do(do(n, '*', k), '/', t))),
	}
}

func checkMerge(t *testing.T, a, b, want Meter, wantFault api.Errno) {
	t.Helper()
	if got, fault := Merge(a, b); !same(got, want) || fault != wantFault {
		t.Errorf("Merge(%v, %v) = %v, %d, not %v, %d", a, b, got, fault, want, wantFault)
	}
}

func TestMerge(t *testing.T) {
	full := Meter{1, 2, 3, 4, 5, 6, 7, 8}
	none := Meter{0, 7, nan, 1, nan, nan, nan, nan}
	for _, c := range []struct{ a, b, want Meter }{
		{Meter{1, 0, 1, 0, 1, 1, 1, 0}, Meter{1, 0, 2, 0, 2, 2, 2, 0}, Meter{2, 0, 3, 0, 1, 2, 1.5, 0.5}},
		{New(), New(), New()},
		{full, New(), full},
		{New(), full, full},
		// The fields of the one that counts none are not looked at, but for Bad.
		{full, none, Meter{1, 9, 3, 4, 5, 6, 7, 8}},
		{none, full, Meter{1, 9, 3, 4, 5, 6, 7, 8}},
		{none, Meter{0, 1, 3, minus0, 5, 6, minus0, 8}, Meter{0, 8, 3, minus0, 5, 6, minus0, 8}},
		{Meter{0, 1, 3, 4, 5, 6, 7, 8}, none, Meter{0, 8, nan, 1, nan, nan, nan, nan}},
		{Meter{N: 1, Sum: 1, Lost: 0.5}, Meter{N: 1, Sum: 0x1p53, Lost: 0.25}, Meter{N: 2, Sum: 0x1p53, Lost: 1.75}},
		{Meter{N: 1, Sum: 0x1p53, Lost: 0.5}, Meter{N: 1, Sum: 1, Lost: 0.25}, Meter{N: 2, Sum: 0x1p53, Lost: 1.75}},
		// +0 stands for what is lost of a sum that is infinite, or none.
		{Meter{N: 1, Sum: ends, Lost: 2}, Meter{N: 1, Sum: ends, Lost: 3}, Meter{N: 2, Sum: inf, Lost: 5}},
		{Meter{N: 1, Sum: inf, Lost: 2}, Meter{N: 1, Sum: -inf, Lost: 3}, Meter{N: 2, Sum: nan, Lost: 5}},
		{Meter{N: 1, Sum: -inf, Lost: minus0}, Meter{N: 1, Sum: 1, Lost: minus0}, Meter{N: 2, Sum: -inf, Lost: 0}},
		{Meter{N: 1, Sum: nan}, Meter{N: 1, Sum: 1}, Meter{N: 2, Sum: nan}},
		{Meter{N: 1, Lost: minus0, Low: minus0, High: minus0}, Meter{N: 1, Lost: minus0}, Meter{N: 2, Low: minus0, High: 0}},
		{Meter{N: 1, Sum: minus0, Low: 4, High: nan}, Meter{N: 1, Sum: minus0, Low: nan, High: 5}, Meter{N: 2, Sum: minus0, Low: 4, High: 5}},
		{Meter{N: 3, Mean: 1, Spread: 2}, Meter{N: 1, Mean: 5, Spread: 4}, Meter{N: 4, Mean: 2, Spread: 18}},
		{Meter{N: 1, Mean: 1, Spread: 2}, Meter{N: 3, Mean: 5, Spread: 4}, Meter{N: 4, Mean: 4, Spread: 18}},
		{Meter{N: 1, Mean: inf}, Meter{N: 1, Mean: inf}, Meter{N: 2, Mean: nan, Spread: nan}},
	} {
		checkMerge(t, c.a, c.b, c.want, api.OK)
	}
}

func TestMergeCounts(t *testing.T) {
	const top = 1 << 53
	for _, c := range []struct {
		n, k  int
		fault api.Errno
	}{
		{0, 0, api.OK}, {1, 1, api.OK}, {top, 0, api.OK}, {0, top, api.OK}, {top - 1, 1, api.OK}, {1, top - 1, api.OK}, {top / 2, top / 2, api.OK},
		{top, 1, api.ErrArg}, {1, top, api.ErrArg}, {top + 1, 0, api.ErrArg}, {0, top + 1, api.ErrArg}, {top, top, api.ErrArg},
		{math.MaxInt, 0, api.ErrArg}, {math.MaxInt, 1, api.ErrArg}, {1, math.MaxInt, api.ErrArg}, {math.MaxInt, math.MaxInt, api.ErrArg},
		{-1, 0, api.ErrArg}, {0, -1, api.ErrArg}, {-1, 1, api.ErrArg}, {1, -1, api.ErrArg}, {-1, -1, api.ErrArg}, {-1, top + 1, api.ErrArg}, {top + 1, -1, api.ErrArg},
		{math.MinInt, 0, api.ErrArg}, {0, math.MinInt, api.ErrArg}, {math.MinInt, math.MinInt, api.ErrArg}, {math.MinInt, math.MaxInt, api.ErrArg}, {math.MaxInt, math.MinInt, api.ErrArg},
	} {
		asN := []Meter{{N: c.n, Sum: 1, Mean: 1}, {N: c.k, Sum: 1, Mean: 1}}
		asBad := []Meter{{N: 1, Bad: c.n, Mean: 1}, {N: 1, Bad: c.k, Mean: 1}}
		// The sum of the Ns is one, that of the Bads another: both may be 2^53.
		asBoth := []Meter{{N: c.n, Bad: c.k, Sum: 1, Mean: 1}, {N: c.k, Bad: c.n, Sum: 1, Mean: 1}}
		for _, m := range [][]Meter{asN, asBad, asBoth} {
			want := Meter{}
			if c.fault == api.OK {
				want = wantMerge(m[0], m[1])
			}
			checkMerge(t, m[0], m[1], want, c.fault)
		}
	}
}

func TestMergeAny(t *testing.T) {
	d := dice(4)
	for range 20000 {
		a, b := d.meter(), d.meter()
		if a.N+b.N > 1<<53 || a.Bad+b.Bad > 1<<53 {
			checkMerge(t, a, b, Meter{}, api.ErrArg)
			continue
		}
		checkMerge(t, a, b, wantMerge(a, b), api.OK)
	}
	for _, x := range edges {
		for _, y := range edges {
			a, b := Meter{3, 1, x, y, x, x, x, y}, Meter{7, 1, y, x, y, y, y, x}
			checkMerge(t, a, b, wantMerge(a, b), api.OK)
		}
	}
}

// P8.5

func TestSmooth(t *testing.T) {
	for _, c := range []struct {
		last, x, alpha float64
		want           float64
		fault          api.Errno
	}{
		{10, 20, 0.25, 12.5, api.OK},
		{20, 10, 0.25, 17.5, api.OK},
		{nan, 5, 0.5, 5, api.OK},
		{nan, minus0, 0.5, minus0, api.OK},
		{3, nan, 1, 3, api.OK},
		{3, nan, 0.5, 3, api.OK},
		{minus0, nan, 0.5, minus0, api.OK},
		{inf, nan, 0.5, inf, api.OK},
		{nan, nan, 0.5, nan, api.OK},
		{nan, nan, 1, nan, api.OK},
		// With 1 nothing is summed, which would round, or be none.
		{0x1p53, 1, 1, 1, api.OK},
		{0x1p60, 0.1, 1, 0.1, api.OK},
		{inf, 1, 1, 1, api.OK},
		{inf, inf, 1, inf, api.OK},
		{-ends, ends, 1, ends, api.OK},
		{0, minus0, 1, minus0, api.OK},
		{inf, inf, 0.5, nan, api.OK},
		{inf, 1, 0.5, nan, api.OK},
		{1, inf, 0.5, inf, api.OK},
		{-ends, ends, 0.5, inf, api.OK},
		{1, 2, 0x1p-1074, 1, api.OK},
		{0, 2, 0x1p-1074, 0x1p-1073, api.OK},
		{7, 7, 0x1.fffffffffffffp-1, 7, api.OK},
		{1, 2, 0, 0, api.ErrRange},
		{1, 2, minus0, 0, api.ErrRange},
		{1, 2, -0x1p-1074, 0, api.ErrRange},
		{1, 2, -1, 0, api.ErrRange},
		{1, 2, -inf, 0, api.ErrRange},
		{1, 2, 0x1.0000000000001p0, 0, api.ErrRange},
		{1, 2, inf, 0, api.ErrRange},
		{nan, 5, 0, 0, api.ErrRange},
		{3, nan, 2, 0, api.ErrRange},
		{nan, nan, minus0, 0, api.ErrRange},
		{1, 2, nan, 0, api.ErrNaN},
		{3, nan, nans[3], 0, api.ErrNaN},
		{nan, 5, nans[1], 0, api.ErrNaN},
	} {
		if got, fault := Smooth(c.last, c.x, c.alpha); !one(got, c.want) || fault != c.fault {
			t.Errorf("Smooth(%x, %x, %x) = %x, %d, not %x, %d", c.last, c.x, c.alpha, got, fault, c.want, c.fault)
		}
	}
}

func wantSmooth(last, x, alpha float64) (float64, api.Errno) {
	switch {
	case alpha != alpha:
		return 0, api.ErrNaN
	case !(alpha > 0 && alpha <= 1):
		return 0, api.ErrRange
	case x != x:
		return last, api.OK
	case last != last || alpha == 1:
		return x, api.OK
	}
	return do(last, '+', do(alpha, '*', do(x, '-', last))), api.OK
}

func TestSmoothAny(t *testing.T) {
	d := dice(5)
	for range 20000 {
		last, x, alpha := d.any(), d.any(), d.any()
		if d.next()%4 > 0 {
			alpha = math.Abs(d.finite(-10, -1))
		}
		want, wantFault := wantSmooth(last, x, alpha)
		if got, fault := Smooth(last, x, alpha); !one(got, want) || fault != wantFault {
			t.Errorf("Smooth(%x, %x, %x) = %x, %d, not %x, %d", last, x, alpha, got, fault, want, wantFault)
		}
	}
}

// P8.6

func TestQuantile(t *testing.T) {
	long := slices.Repeat([]float64{1}, 4097)
	longNaN := slices.Repeat([]float64{nan}, 4097)
	for _, c := range []struct {
		list  []float64
		q     float64
		want  float64
		fault api.Errno
	}{
		{[]float64{3, 1, 2}, 0.5, 2, api.OK},
		{[]float64{3, 1, 2}, 0, 1, api.OK},
		{[]float64{3, 1, 2}, minus0, 1, api.OK},
		{[]float64{3, 1, 2}, 1, 3, api.OK},
		{[]float64{3, 1, 2}, 0.25, 1.5, api.OK},
		{[]float64{1, 2}, 0.25, 1.25, api.OK},
		{[]float64{2, 1}, 0x1p-1074, 1, api.OK},
		{[]float64{2, 0}, 0x1p-1074, 0x1p-1073, api.OK},
		{[]float64{5}, 0.3, 5, api.OK},
		{[]float64{5}, 1, 5, api.OK},
		{[]float64{minus0}, 0.5, minus0, api.OK},
		{[]float64{0, minus0}, 0, minus0, api.OK},
		{[]float64{minus0, 0}, 0, minus0, api.OK},
		{[]float64{0, minus0}, 1, 0, api.OK},
		{[]float64{minus0, 0}, 0.5, 0, api.OK},
		{[]float64{minus0, 5, minus0}, 0.25, minus0, api.OK},
		{[]float64{inf, inf}, 0.5, inf, api.OK},
		{[]float64{-inf, -inf, 1}, 0.25, -inf, api.OK},
		{[]float64{inf, -inf}, 0.5, nan, api.OK},
		{[]float64{inf, 1}, 0.5, inf, api.OK},
		{[]float64{-inf, 1}, 0.5, nan, api.OK},
		{[]float64{-inf, 1}, 0, -inf, api.OK},
		{[]float64{1, -inf}, 1, 1, api.OK},
		{[]float64{-ends, ends}, 0.5, inf, api.OK},
		{[]float64{ends, ends}, 0.5, ends, api.OK},
		// A third three times is 1 when it is rounded, though truly less.
		{[]float64{0, 10, 20, 30}, 1.0 / 3, 10, api.OK},
		{[]float64{0x1p61, 0, 0x1p60, 20}, 1.0 / 3, 20, api.OK},
		{[]float64{1, 2}, 0x1.fffffffffffffp-1, 2, api.OK},
		{[]float64{0, 1}, 0x1.fffffffffffffp-1, 0x1.fffffffffffffp-1, api.OK},
		{nil, 0.5, 0, api.ErrNone},
		{[]float64{}, 0, 0, api.ErrNone},
		{nil, 2, 0, api.ErrRange},
		{nil, nan, 0, api.ErrNaN},
		{[]float64{1}, -0x1p-1074, 0, api.ErrRange},
		{[]float64{1}, 0x1.0000000000001p0, 0, api.ErrRange},
		{[]float64{1}, -1, 0, api.ErrRange},
		{[]float64{1}, inf, 0, api.ErrRange},
		{[]float64{1}, -inf, 0, api.ErrRange},
		{[]float64{1}, nan, 0, api.ErrNaN},
		{[]float64{1, nans[1]}, 0, 0, api.ErrNaN},
		{[]float64{nans[3], 1}, 1, 0, api.ErrNaN},
		{[]float64{nan}, 0.5, 0, api.ErrNaN},
		{[]float64{1, nan, 2}, 2, 0, api.ErrNaN},
		{long[:4096], 0.3, 1, api.OK},
		{longNaN[:4096], 0.3, 0, api.ErrNaN},
		{long, 0.5, 0, api.ErrLong},
		{long, 2, 0, api.ErrLong},
		{long, nan, 0, api.ErrLong},
		{longNaN, 0.5, 0, api.ErrLong},
	} {
		if got, fault := Quantile(c.list, c.q); !one(got, c.want) || fault != c.fault {
			t.Errorf("Quantile(%d: %v, %x) = %x, %d, not %x, %d", len(c.list), c.list[:min(len(c.list), 9)], c.q, got, fault, c.want, c.fault)
		}
	}
}

// inOrder: the numbers of a list without NaNs, -0 ahead of +0.
func inOrder(list []float64) []float64 {
	sorted := slices.Clone(list)
	slices.SortFunc(sorted, func(x, y float64) int {
		switch {
		case one(x, y):
			return 0
		case x < y || x == y && math.Signbit(x):
			return -1
		}
		return 1
	})
	return sorted
}

// wantQuantile: the chapter's words, of arguments without a fault.
func wantQuantile(list []float64, q float64) float64 {
	sorted := inOrder(list)
	p := do(q, '*', float64(len(list)-1))
	i := min(int(math.Floor(p)), len(list)-1)
	f := do(p, '-', float64(i))
	lo := sorted[i]
	if f == 0 || i == len(list)-1 {
		return lo
	}
	hi := sorted[i+1]
	if one(lo, hi) {
		return lo
	}
	return do(lo, '+', do(f, '*', do(hi, '-', lo)))
}

func TestQuantileAny(t *testing.T) {
	d := dice(6)
	shares := []float64{0, minus0, 0x1p-1074, 0.1, 0.25, 1.0 / 3, 0.5, 2.0 / 3, 0.9, 0.99, 0x1.fffffffffffffp-1, 1}
	for n := 1; n <= 120; n++ {
		list := make([]float64, n)
		for i := range list {
			for list[i] = nan; list[i] != list[i]; {
				list[i] = d.any()
			}
			if n%2 == 0 {
				list[i] = d.finite(-3, 3)
			}
		}
		for range 40 {
			shares = append(shares[:12], math.Abs(d.finite(-8, -1)), float64(d.next()%uint64(n))/float64(n))
			for _, q := range shares {
				want := wantQuantile(list, q)
				if got, fault := Quantile(list, q); !one(got, want) || fault != api.OK {
					t.Errorf("Quantile(%v, %x) = %x, %d, not %x", list, q, got, fault, want)
				}
			}
		}
	}
}

func TestQuantileOfMost(t *testing.T) {
	d := dice(7)
	list := make([]float64, 4096)
	for i := range list {
		list[i] = d.finite(-30, 30)
	}
	for _, q := range []float64{0, 0x1p-12, 0.3, 0.5, 0.999, 0x1.fffffffffffffp-1, 1} {
		want := wantQuantile(list, q)
		if got, fault := Quantile(list, q); !one(got, want) || fault != api.OK {
			t.Errorf("Quantile(.., %x) = %x, %d, not %x", q, got, fault, want)
		}
	}
}

// The rules that hold everywhere

func TestArgumentsStay(t *testing.T) {
	list := []float64{3, 1, minus0, 2, 0, -5, 77, 77, 77}
	kept := slices.Clone(list)
	for _, q := range []float64{0, 0.3, 1, 2} {
		Of(list[:6])
		Quantile(list[:6], q)
		if !slices.EqualFunc(list, kept, one) {
			t.Fatalf("the list was changed: %v", list)
		}
	}
}

// Where the compiler fuses products, the tests above see it. Where it does not,
// as on many machines, this one sees a product that stands by itself.
func TestProductsAreRounded(t *testing.T) {
	file, err := parser.ParseFile(token.NewFileSet(), "meter.go", nil, 0)
	if err != nil {
		t.Fatal(err)
	}
	all, rounded := 0, 0
	ast.Inspect(file, func(n ast.Node) bool {
		switch x := n.(type) {
		case *ast.BinaryExpr:
			if x.Op == token.MUL {
				all++
			}
		case *ast.AssignStmt:
			if x.Tok == token.MUL_ASSIGN {
				all++
			}
		case *ast.CallExpr:
			if to, ok := x.Fun.(*ast.Ident); ok && to.Name == "float64" && isProduct(x.Args[0]) {
				rounded++
			}
		}
		return true
	})
	if all == 0 || rounded != all {
		t.Errorf("%d of %d products stand as float64(a*b)", rounded, all)
	}
}

func isProduct(e ast.Expr) bool {
	x, ok := e.(*ast.BinaryExpr)
	return ok && x.Op == token.MUL
}
