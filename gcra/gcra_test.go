package gcra

import (
	"cmp"
	"math"
	"math/big"
	"slices"
	"testing"

	"spigot/api"
	"spigot/rate"
)

const Max = 4611686018427387903

// grants: the chapter's words, by big numbers.
func grants(l api.Limit, tat, now, n int64) bool {
	if n == 0 {
		return true
	}
	base, t := big.NewInt(max(tat, now)), big.NewInt(l.T)
	early := new(big.Int).Mul(big.NewInt(n-1), t)
	early.Add(early, base).Sub(early, big.NewInt(now))
	end := new(big.Int).Mul(big.NewInt(n), t)
	end.Add(end, base)
	return early.Cmp(big.NewInt(l.Tau)) <= 0 && end.Cmp(big.NewInt(Max)) <= 0
}

// firstOf: the least number from low on at which f is true. It must be so from
// there to high.
func firstOf(low, high int64, f func(int64) bool) int64 {
	for low < high {
		middle := low + (high-low)/2
		if f(middle) {
			high = middle
		} else {
			low = middle + 1
		}
	}
	return low
}

func wantLeft(l api.Limit, tat, now int64) int64 {
	if grants(l, tat, now, Max) {
		return Max
	}
	return firstOf(0, Max, func(n int64) bool { return !grants(l, tat, now, n) }) - 1
}

// wantWait looks no farther than the greater of tat and now: behind it base grows
// with the clock.
func wantWait(l api.Limit, tat, now, n int64) int64 {
	if !grants(l, tat, max(tat, now), n) {
		return Max
	}
	return firstOf(now, max(tat, now), func(at int64) bool { return grants(l, tat, at, n) }) - now
}

func wantAnswer(l api.Limit, tat, now, n int64) Answer {
	want := Answer{Granted: grants(l, tat, now, n), TAT: tat}
	if !want.Granted {
		want.Wait = wantWait(l, tat, now, n)
	} else if n > 0 {
		want.TAT = max(tat, now) + n*l.T
	}
	want.Left = wantLeft(l, want.TAT, now)
	return want
}

// dice are numbers that look thrown, and are the same in each run.
type dice uint64

func (d *dice) next() uint64 {
	*d = *d*6364136223846793005 + 1442695040888963407
	x := uint64(*d)
	return (x ^ x>>29) * 0x9e3779b97f4a7c15
}

// tick: a tick of any size, or one that lies beside an end.
func (d *dice) tick() int64 {
	x := int64(d.next() >> 2 >> (d.next() % 62))
	if d.next()%4 == 0 {
		return Max - x
	}
	return x
}

func (d *dice) limit() api.Limit {
	return api.Limit{T: max(1, d.tick()), Tau: d.tick()}
}

var (
	limits = []api.Limit{
		{T: 1}, {T: 1, Tau: 1}, {T: 1, Tau: Max}, {T: 2, Tau: Max}, {T: 10, Tau: 20}, {T: 10}, {T: 10, Tau: 9}, {T: 10, Tau: 29},
		{T: 1 << 31, Tau: 1 << 33}, {T: 1 << 61, Tau: 1 << 61}, {T: 1<<61 + 1, Tau: Max}, {T: 1537228672809129301, Tau: Max},
		{T: Max}, {T: Max, Tau: Max - 1}, {T: Max, Tau: Max}, {T: Max - 1, Tau: Max},
	}
	noLimits = []api.Limit{
		{}, {Tau: 1}, {T: -1}, {T: math.MinInt64}, {T: Max + 1}, {T: math.MaxInt64},
		{T: 1, Tau: -1}, {T: 1, Tau: math.MinInt64}, {T: 1, Tau: Max + 1}, {T: 1, Tau: math.MaxInt64},
	}
	ticks = []int64{
		0, 1, 2, 9, 10, 11, 19, 20, 21, 100, 1 << 31, 1 << 32, 1 << 33, 1<<61 - 1, 1 << 61, 1<<61 + 1, 1537228672809129301,
		Max - 21, Max - 20, Max - 11, Max - 10, Max - 9, Max - 2, Max - 1, Max,
	}
	noTicks = []int64{-1, -Max, math.MinInt64, Max + 1, math.MaxInt64}
)

func checkDecide(t *testing.T, l api.Limit, tat, now, n int64, want Answer) {
	t.Helper()
	if got, fault := Decide(l, tat, now, n); got != want || fault != api.OK {
		t.Errorf("Decide(%d, %d, %d, %d) = %v, %d, not %v", l, tat, now, n, got, fault, want)
	}
}

// P5.1

func TestDecide(t *testing.T) {
	l := api.Limit{T: 10, Tau: 20}
	for _, c := range []struct {
		l           api.Limit
		tat, now, n int64
		want        Answer
	}{
		{l, 0, 100, 1, Answer{true, 110, 0, 2}},
		{l, 100, 100, 1, Answer{true, 110, 0, 2}},
		{l, 110, 100, 1, Answer{true, 120, 0, 1}},
		{l, 0, 100, 3, Answer{true, 130, 0, 0}},
		{l, 130, 100, 1, Answer{false, 130, 10, 0}},
		{l, 120, 100, 1, Answer{true, 130, 0, 0}},
		{l, 121, 100, 1, Answer{false, 121, 1, 0}},
		{l, 110, 100, 3, Answer{false, 110, 10, 2}},
		{l, 0, 100, 4, Answer{false, 0, Max, 3}},
		{l, 130, 100, 4, Answer{false, 130, Max, 0}},
		{l, 0, 0, Max, Answer{false, 0, Max, 3}},
		// Of the cost 0 tat stays, also where it lies behind the clock, or too far ahead.
		{l, 130, 100, 0, Answer{true, 130, 0, 0}},
		{l, 0, 100, 0, Answer{true, 0, 0, 3}},
		{l, Max, 0, 0, Answer{true, Max, 0, 0}},
		{l, Max, Max, 0, Answer{true, Max, 0, 0}},
		{api.Limit{T: 10}, 105, 100, 1, Answer{false, 105, 5, 0}},
		{api.Limit{T: 10}, 100, 100, 1, Answer{true, 110, 0, 0}},
		{api.Limit{T: 10}, 100, 100, 2, Answer{false, 100, Max, 1}},
		// The new tat at Max, and above it.
		{api.Limit{T: 1}, Max, 0, 1, Answer{false, Max, Max, 0}},
		{api.Limit{T: 1}, Max - 1, 0, 1, Answer{false, Max - 1, Max - 1, 0}},
		{api.Limit{T: 1}, Max - 1, Max - 1, 1, Answer{true, Max, 0, 0}},
		{api.Limit{T: 1}, 0, Max, 1, Answer{false, 0, Max, 0}},
		{l, 0, Max - 10, 1, Answer{true, Max, 0, 0}},
		{l, 0, Max - 9, 1, Answer{false, 0, Max, 0}},
		{l, 0, Max - 20, 3, Answer{false, 0, Max, 2}},
		{l, Max - 10, Max - 40, 1, Answer{false, Max - 10, 10, 0}},
		{l, Max - 9, Max - 40, 1, Answer{false, Max - 9, Max, 0}},
		{api.Limit{T: Max, Tau: Max}, 0, 0, 1, Answer{true, Max, 0, 0}},
		{api.Limit{T: Max, Tau: Max}, 0, 0, 2, Answer{false, 0, Max, 1}},
		{api.Limit{T: Max, Tau: Max}, 1, 0, 1, Answer{false, 1, Max, 0}},
		{api.Limit{T: Max}, 0, 1, 1, Answer{false, 0, Max, 0}},
		// Products that wrap round an int64.
		{api.Limit{T: 1 << 32, Tau: 5}, 0, 0, 1 << 32, Answer{false, 0, Max, 1}},
		{api.Limit{T: 1 << 32, Tau: 5}, 7, 0, 1<<32 + 1, Answer{false, 7, Max, 0}},
		{api.Limit{T: 1 << 61, Tau: Max}, 0, 0, 8, Answer{false, 0, Max, 1}},
		{api.Limit{T: 1, Tau: Max}, 0, 0, Max, Answer{true, Max, 0, 0}},
		{api.Limit{T: 1, Tau: Max}, 1, 0, Max, Answer{false, 1, Max, Max - 1}},
		{api.Limit{T: 2, Tau: Max}, 0, 0, Max, Answer{false, 0, Max, Max / 2}},
	} {
		checkDecide(t, c.l, c.tat, c.now, c.n, c.want)
	}
}

func TestDecideAtEdges(t *testing.T) {
	costs := []int64{0, 1, 2, 3, 1 << 32, 1<<32 + 1, 1 << 61, Max - 1, Max}
	for _, l := range limits {
		for _, tat := range ticks {
			for _, now := range ticks {
				left := wantLeft(l, tat, now)
				for _, n := range append(costs, max(0, left-1), left, min(Max, left+1)) {
					checkDecide(t, l, tat, now, n, wantAnswer(l, tat, now, n))
				}
			}
		}
	}
}

func TestDecideMany(t *testing.T) {
	d := dice(1)
	for range 10000 {
		l, tat, now := d.limit(), d.tick(), d.tick()
		left := wantLeft(l, tat, now)
		for _, n := range []int64{d.tick(), left, min(Max, left+1)} {
			checkDecide(t, l, tat, now, n, wantAnswer(l, tat, now, n))
		}
	}
}

// small hands limits, tats, clocks and costs to f, at both ends of the ticks.
func small(f func(l api.Limit, tat, now, n int64)) {
	const span = 10
	for _, low := range []int64{0, Max - span + 1} {
		for i := range int64(4 * 8) {
			for j := range int64(span * span) {
				for n := range int64(6) {
					f(api.Limit{T: 1 + i/8, Tau: i % 8}, low+j/span, low+j%span, n)
				}
			}
		}
	}
}

// Each clock from now on is looked at, one behind the other.
func TestWaitIsLeast(t *testing.T) {
	small(func(l api.Limit, tat, now, n int64) {
		want := int64(Max)
		for w := range min(50, Max-now+1) {
			if grants(l, tat, now+w, n) {
				want = w
				break
			}
		}
		if got, fault := Decide(l, tat, now, n); got.Wait != want || fault != api.OK {
			t.Errorf("Decide(%d, %d, %d, %d) = %v, %d, not Wait %d", l, tat, now, n, got, fault, want)
		}
	})
}

// What was told to wait is granted then, and not one tick earlier.
func TestWaitHolds(t *testing.T) {
	d := dice(2)
	told := 0
	for range 20000 {
		l, tat, now, n := d.limit(), d.tick(), d.tick(), d.tick()%4
		got, _ := Decide(l, tat, now, n)
		if got.Granted || got.Wait == Max {
			continue
		}
		told++
		then, _ := Decide(l, tat, now+got.Wait, n)
		ahead, _ := Decide(l, tat, now+got.Wait-1, n)
		if !then.Granted || ahead.Granted || ahead.Wait != 1 {
			t.Errorf("Decide(%d, %d, %d, %d) = %v; then %v, and ahead of that %v", l, tat, now, n, got, then, ahead)
		}
	}
	if told < 1000 {
		t.Errorf("%d were told to wait", told)
	}
}

// eachFault hands limits and three numbers of which one at least is wrong to f.
func eachFault(f func(l api.Limit, a, b, c int64)) {
	for _, l := range noLimits {
		f(l, 0, 0, 0)
		f(l, 110, 100, Max)
		f(l, -1, -1, -1)
	}
	for _, n := range noTicks {
		l := api.Limit{T: 10, Tau: 20}
		f(l, n, 100, 1)
		f(l, 100, n, 1)
		f(l, 100, 100, n)
		f(l, n, n, n)
	}
}

func TestDecideWrong(t *testing.T) {
	eachFault(func(l api.Limit, tat, now, n int64) {
		if got, fault := Decide(l, tat, now, n); got != (Answer{}) || fault != api.ErrArg {
			t.Errorf("Decide(%d, %d, %d, %d) = %v, %d", l, tat, now, n, got, fault)
		}
	})
}

// P5.2

func TestLeft(t *testing.T) {
	l := api.Limit{T: 10, Tau: 20}
	for _, c := range []struct {
		l              api.Limit
		tat, now, want int64
	}{
		{l, 0, 100, 3},
		{l, 100, 100, 3},
		{l, 101, 100, 2},
		{l, 110, 100, 2},
		{l, 111, 100, 1},
		{l, 120, 100, 1},
		{l, 121, 100, 0},
		{l, Max, 0, 0},
		{api.Limit{T: 10, Tau: 19}, 0, 0, 2},
		{api.Limit{T: 10}, 0, 0, 1},
		{api.Limit{T: 1, Tau: Max}, 0, 0, Max},
		{api.Limit{T: 1, Tau: Max}, 0, 1, Max - 1},
		{api.Limit{T: 1, Tau: Max}, 1, 0, Max - 1},
		{api.Limit{T: 1, Tau: Max}, Max, 0, 0},
		{api.Limit{T: 1, Tau: Max - 1}, 0, 0, Max},
		{api.Limit{T: 1, Tau: Max - 2}, 0, 0, Max - 1},
		{api.Limit{T: Max, Tau: Max}, 0, 0, 1},
		{api.Limit{T: Max, Tau: Max}, 0, 1, 0},
		{l, 0, Max - 10, 1},
		{l, 0, Max - 9, 0},
		{l, 0, Max, 0},
	} {
		if got, fault := Left(c.l, c.tat, c.now); got != c.want || fault != api.OK {
			t.Errorf("Left(%d, %d, %d) = %d, %d, not %d", c.l, c.tat, c.now, got, fault, c.want)
		}
	}
	for _, l := range limits {
		for _, tat := range ticks {
			for _, now := range ticks {
				if got, fault := Left(l, tat, now); got != wantLeft(l, tat, now) || fault != api.OK {
					t.Errorf("Left(%d, %d, %d) = %d, %d", l, tat, now, got, fault)
				}
			}
		}
	}
}

// Each cost is looked at, one behind the other.
func TestLeftIsGreatest(t *testing.T) {
	small(func(l api.Limit, tat, now, n int64) {
		want := int64(0)
		for cost := range int64(30) {
			if grants(l, tat, now, cost) {
				want = cost
			}
		}
		if got, fault := Left(l, tat, now); got != want || fault != api.OK {
			t.Errorf("Left(%d, %d, %d) = %d, %d, not %d", l, tat, now, got, fault, want)
		}
	})
}

func TestLeftWrong(t *testing.T) {
	eachFault(func(l api.Limit, tat, now, n int64) {
		want, wantFault := int64(0), api.ErrArg
		if rate.Check(l) == api.OK && !slices.Contains(noTicks, tat) && !slices.Contains(noTicks, now) {
			want, wantFault = wantLeft(l, tat, now), api.OK
		}
		if got, fault := Left(l, tat, now); got != want || fault != wantFault {
			t.Errorf("Left(%d, %d, %d) = %d, %d", l, tat, now, got, fault)
		}
	})
}

// P5.3

func TestIdle(t *testing.T) {
	for _, tat := range ticks {
		for _, now := range ticks {
			if got, fault := Idle(tat, now); got != (tat <= now) || fault != api.OK {
				t.Errorf("Idle(%d, %d) = %v, %d", tat, now, got, fault)
			}
		}
		for _, n := range noTicks {
			for _, pair := range [][2]int64{{n, tat}, {tat, n}, {n, n}} {
				if got, fault := Idle(pair[0], pair[1]); got || fault != api.ErrArg {
					t.Errorf("Idle(%d, %d) = %v, %d", pair[0], pair[1], got, fault)
				}
			}
		}
	}
}

// A tat that is idle counts as if nothing had ever been granted.
func TestIdleCountsAsNothing(t *testing.T) {
	small(func(l api.Limit, tat, now, n int64) {
		if idle, _ := Idle(tat, now); !idle || n == 0 {
			return
		}
		got, _ := Decide(l, tat, now, n)
		fresh, _ := Decide(l, 0, now, n)
		if !got.Granted {
			got.TAT = 0 // it stays, and so it is the one field that may tell them apart
		}
		if got != fresh {
			t.Errorf("Decide(%d, %d, %d, %d) = %v, of a fresh key %v", l, tat, now, n, got, fresh)
		}
	})
}

// P5.4

func TestRun(t *testing.T) {
	l := api.Limit{T: 10, Tau: 20}
	for _, c := range []struct {
		l    api.Limit
		tat  int64
		list []Ask
		want []Answer
	}{
		{api.Limit{T: 10}, 0, []Ask{{0, 1}, {5, 1}, {10, 1}}, []Answer{{true, 10, 0, 0}, {false, 10, 5, 0}, {true, 20, 0, 0}}},
		{l, 130, []Ask{{100, 1}, {110, 1}}, []Answer{{false, 130, 10, 0}, {true, 140, 0, 0}}},
		// The clock goes back.
		{l, 0, []Ask{{100, 1}, {90, 1}, {90, 1}, {100, 1}}, []Answer{{true, 110, 0, 2}, {true, 120, 0, 0}, {false, 120, 10, 0}, {true, 130, 0, 0}}},
		{l, 0, []Ask{{100, 2}, {0, 0}, {0, 1}}, []Answer{{true, 120, 0, 1}, {true, 120, 0, 0}, {false, 120, 100, 0}}},
		{l, 7, nil, nil},
		{l, 7, []Ask{}, nil},
	} {
		got, fault := Run(c.l, c.tat, c.list)
		if !slices.Equal(got, c.want) || fault != api.OK {
			t.Errorf("Run(%d, %d, %v) = %v, %d, not %v", c.l, c.tat, c.list, got, fault, c.want)
		}
	}
}

func asks(d *dice, count int) []Ask {
	list := make([]Ask, count)
	for i := range list {
		list[i] = Ask{int64(d.next() % 500), int64(d.next() % 4)}
	}
	return list
}

func TestRunIsDecideInTurn(t *testing.T) {
	d := dice(3)
	for i := range 300 {
		l := api.Limit{T: int64(1 + d.next()%20), Tau: int64(d.next() % 60)}
		tat := int64(d.next() % 100)
		list := asks(&d, i)
		kept := slices.Clone(list)
		got, fault := Run(l, tat, list)
		if fault != api.OK || len(got) != len(list) || !slices.Equal(list, kept) {
			t.Fatalf("Run(%d, %d, %v) = %v, %d", l, tat, list, got, fault)
		}
		for j, ask := range list {
			want, _ := Decide(l, tat, ask.Now, ask.N)
			if got[j] != want {
				t.Fatalf("Run(%d, .., %v) at %d = %v, not %v", l, list, j, got[j], want)
			}
			tat = want.TAT
		}
	}
}

// noAsks: asks of which one, at the front or at the back, is none.
func noAsks(count int) [][]Ask {
	var lists [][]Ask
	for _, n := range noTicks {
		for _, ask := range []Ask{{n, 1}, {1, n}, {n, n}} {
			front, back := make([]Ask, count), make([]Ask, count)
			front[0], back[count-1] = ask, ask
			lists = append(lists, front, back)
		}
	}
	return lists
}

func TestRunWrong(t *testing.T) {
	l := api.Limit{T: 10, Tau: 20}
	refused := func(l api.Limit, tat int64, list []Ask, want api.Errno) {
		t.Helper()
		if got, fault := Run(l, tat, list); len(got) != 0 || fault != want {
			t.Errorf("Run(%d, %d, %d asks) = %v, %d, not %d", l, tat, len(list), got, fault, want)
		}
	}
	for _, list := range [][]Ask{nil, {{100, 1}}, make([]Ask, api.MaxSamples+1)} {
		for _, l := range noLimits {
			refused(l, 0, list, api.ErrArg)
		}
		for _, tat := range noTicks {
			refused(l, tat, list, api.ErrArg)
		}
	}
	for _, count := range []int{1, 3, api.MaxSamples, api.MaxSamples + 1} {
		for _, list := range noAsks(count) {
			refused(l, 0, list, api.ErrArg)
		}
	}
	refused(l, 0, make([]Ask, api.MaxSamples+1), api.ErrLong)
	refused(l, 0, make([]Ask, 3*api.MaxSamples), api.ErrLong)
	if got, fault := Run(l, 0, make([]Ask, api.MaxSamples)); len(got) != api.MaxSamples || fault != api.OK {
		t.Errorf("Run of %d asks: %d answers, %d", api.MaxSamples, len(got), fault)
	}
}

func TestRunAnswersNewMemory(t *testing.T) {
	l, list := api.Limit{T: 10, Tau: 20}, []Ask{{100, 1}, {100, 1}}
	want := []Answer{{true, 110, 0, 2}, {true, 120, 0, 1}}
	first, _ := Run(l, 0, list)
	second, _ := Run(l, 0, list)
	clear(first[:cap(first)])
	clear(list)
	if !slices.Equal(second, want) {
		t.Errorf("%v, not %v", second, want)
	}
}

// P5.5

func TestTooGreatIsNeverGranted(t *testing.T) {
	d := dice(4)
	for range 20000 {
		l, tat, now := d.limit(), d.tick(), d.tick()
		if l.Tau/l.T+2 > Max {
			continue
		}
		n := max(l.Tau/l.T+2, d.tick())
		if got, fault := Decide(l, tat, now, n); got.Granted || got.Wait != Max || fault != api.OK {
			t.Errorf("Decide(%d, %d, %d, %d) = %v, %d", l, tat, now, n, got, fault)
		}
	}
}

// checkSpans: of no span of the clocks more is granted than rate.Within tells.
func checkSpans(t *testing.T, l api.Limit, list []Ask, answers []Answer) {
	for i := range list {
		sum := new(big.Int)
		for j := i; j < len(list); j++ {
			if answers[j].Granted {
				sum.Add(sum, big.NewInt(list[j].N))
			}
			most, _ := rate.Within(l, list[j].Now-list[i].Now)
			if sum.Cmp(big.NewInt(most)) > 0 {
				t.Fatalf("Run(%d, .., %v): %v from %d to %d, more than %d", l, list, sum, i, j, most)
			}
		}
	}
}

func TestNoSpanSeesMore(t *testing.T) {
	d := dice(5)
	granted := 0
	for i := range 400 {
		l := api.Limit{T: int64(1 + d.next()%20), Tau: int64(d.next() % 60)}
		tat, list := int64(d.next()%100), asks(&d, 40)
		if i%2 == 0 {
			l, tat = d.limit(), d.tick()
			for j := range list {
				list[j] = Ask{d.tick(), d.tick()}
			}
		}
		slices.SortFunc(list, func(a, b Ask) int { return cmp.Compare(a.Now, b.Now) })
		answers, fault := Run(l, tat, list)
		if fault != api.OK {
			t.Fatalf("Run(%d, %d, %v): %d", l, tat, list, fault)
		}
		checkSpans(t, l, list, answers)
		for _, answer := range answers {
			if answer.Granted {
				granted++
			}
		}
	}
	if granted == 0 {
		t.Error("nothing was granted")
	}
}

// As many as Within tells are granted indeed, where each is asked for as soon as
// it may be.
func TestWithinIsReached(t *testing.T) {
	for _, c := range []struct {
		l    api.Limit
		span int64
	}{
		{api.Limit{T: 10, Tau: 20}, 100}, {api.Limit{T: 10, Tau: 25}, 105}, {api.Limit{T: 7}, 70}, {api.Limit{T: 3, Tau: 100}, 0}, {api.Limit{T: 1, Tau: 5}, 33},
	} {
		granted, tat, now := int64(0), int64(0), int64(1000)
		for range 500 {
			answer, _ := Decide(c.l, tat, now, 1)
			if answer.Granted {
				granted++
			}
			if tat, now = answer.TAT, now+answer.Wait; now > 1000+c.span {
				break
			}
		}
		if most, _ := rate.Within(c.l, c.span); granted != most {
			t.Errorf("%d within %d: %d granted, not %d", c.l, c.span, granted, most)
		}
	}
}
