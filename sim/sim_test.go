package sim

import (
	"bytes"
	"math"
	"os"
	"reflect"
	"runtime/debug"
	"slices"
	"strings"
	"testing"

	"spigot/api"
	"spigot/hist"
)

// Each script is played on a limiter of its own, which is soon given up: to look for
// them as often as Go does takes more time than the scripts.
func TestMain(m *testing.M) {
	debug.SetGCPercent(800)
	os.Exit(m.Run())
}

var noTicks = []int64{-1, -2, math.MinInt64, api.Max + 1, math.MaxInt64}

// table is that of the chapter's examples.
func table() []api.Policy {
	return []api.Policy{aRate(10, 20), aSema(2)}
}

func aRate(t, tau int64) api.Policy {
	return api.Policy{Kind: api.KindRate, Limit: api.Limit{T: t, Tau: tau}}
}

func aSema(permits int) api.Policy {
	return api.Policy{Kind: api.KindSema, Permits: permits}
}

func allow(policy int, key string, n int64) api.Call {
	return api.Call{Op: api.OpAllow, Policy: policy, Key: []byte(key), N: n}
}

func acquire(policy int, key string) api.Call {
	return api.Call{Op: api.OpAcquire, Policy: policy, Key: []byte(key)}
}

func release(policy int, key string, n int64) api.Call {
	return api.Call{Op: api.OpRelease, Policy: policy, Key: []byte(key), N: n}
}

func peek(policy int, key string) api.Call {
	return api.Call{Op: api.OpPeek, Policy: policy, Key: []byte(key)}
}

var (
	evict = api.Call{Op: api.OpEvict}
	split = api.Call{Op: api.OpSplit}
)

// work is the lists of the workers.
func work(lists ...[]api.Call) [][]api.Call { return lists }

func calls(list ...api.Call) []api.Call { return list }

// picks are of workers, and of the clock by no ticks.
func picks(who ...int) []Pick {
	var list []Pick
	for _, w := range who {
		list = append(list, Pick{Who: w})
	}
	return list
}

func ticks(n int64) Pick { return Pick{Who: -1, Ticks: n} }

func done(who int, c api.Call, first, last int, r api.Reply) hist.Done {
	return hist.Done{Who: who, Call: c, First: first, Last: last, Reply: r}
}

func at(policy int, key string, tat int64, held ...int64) api.Cell {
	return api.Cell{Policy: policy, Key: []byte(key), TAT: tat, Held: held}
}

func sameCell(a, b api.Cell) bool {
	return a.Policy == b.Policy && bytes.Equal(a.Key, b.Key) && a.TAT == b.TAT && slices.Equal(a.Held, b.Held)
}

func sameDone(a, b hist.Done) bool {
	isSame := a.Who == b.Who && a.First == b.First && a.Last == b.Last && a.Reply == b.Reply
	return isSame && a.Call.Op == b.Call.Op && a.Call.Policy == b.Call.Policy && bytes.Equal(a.Call.Key, b.Call.Key) && a.Call.N == b.Call.N
}

func sameReport(a, b Report) bool {
	isSame := a.Now == b.Now && a.Steps == b.Steps && a.Count == b.Count && a.Pending == b.Pending
	return isSame && slices.EqualFunc(a.Calls, b.Calls, sameDone) && slices.EqualFunc(a.Cells, b.Cells, sameCell)
}

func wantRun(t *testing.T, c Config, want Report) {
	if got, e := Run(c); !sameReport(got, want) || e != api.OK {
		t.Helper()
		t.Errorf("Run = %v, %d, not %v", got, e, want)
	}
}

// wantFault: beside an error there is nothing.
func wantFault(t *testing.T, c Config, want api.Errno) {
	if got, e := Run(c); !reflect.DeepEqual(got, Report{}) || e != want {
		t.Helper()
		t.Errorf("Run = %v, %d, not %d", got, e, want)
	}
}

// P19.1, P19.2

func TestExamples(t *testing.T) {
	c := Config{Policies: table(), Cells: 2, Work: work(calls(allow(0, "a", 1)), calls(allow(0, "a", 3))), Finish: true}
	wantRun(t, c, Report{
		Calls: []hist.Done{
			done(0, allow(0, "a", 1), 1, 6, api.Reply{Granted: true, Left: 2}),
			done(1, allow(0, "a", 3), 7, 9, api.Reply{Left: 2, Wait: 10}),
		},
		Cells: []api.Cell{at(0, "a", 10)}, Steps: 9, Count: 1,
	})
	c.Finish = false
	c.Picks = picks(0, 0)
	wantRun(t, c, Report{Steps: 2, Pending: 1})
	c.Picks = []Pick{ticks(5)}
	wantRun(t, c, Report{Now: 5})
	c.Picks = []Pick{ticks(-5)}
	wantFault(t, c, api.ErrArg)
	c.Picks = picks(2)
	wantFault(t, c, api.ErrArg)
	c.Picks, c.Work = nil, work(calls(allow(9, "a", 1)))
	wantFault(t, c, api.ErrPolicy)
}

func TestNothingToDo(t *testing.T) {
	for _, list := range [][]api.Policy{nil, {}, table()} {
		for _, w := range [][][]api.Call{nil, {}, {nil, {}}} {
			for _, finish := range []bool{false, true} {
				c := Config{Policies: list, Cells: 1, Work: w, Finish: finish}
				wantRun(t, c, Report{})
				c.Picks = []Pick{}
				wantRun(t, c, Report{})
				c.Picks = []Pick{ticks(3)}
				if len(w) > 0 {
					c.Picks = append(c.Picks, picks(0, 1, 0)...)
				}
				wantRun(t, c, Report{Now: 3})
			}
		}
	}
}

// Each pick is one step; a call is begun with its first one, and not ahead of the
// return of the one in front of it.
func TestPickByPick(t *testing.T) {
	look := peek(1, "k")
	c := Config{Policies: table(), Cells: 2, Work: work(calls(look, look))}
	free := api.Reply{Left: 2}
	both := []hist.Done{done(0, look, 1, 2, free), done(0, look, 3, 4, free)}
	for n, want := range []Report{
		{},
		{Steps: 1, Pending: 1},
		{Steps: 2, Calls: both[:1]},
		{Steps: 3, Calls: both[:1], Pending: 1},
		{Steps: 4, Calls: both},
		{Steps: 4, Calls: both},
		{Steps: 4, Calls: both},
	} {
		c.Picks = make([]Pick, n)
		wantRun(t, c, want)
	}
}

// The clock goes on between the steps, and stops at its end; the ticks of other
// picks are not looked at.
func TestTheClock(t *testing.T) {
	c := Config{Policies: table(), Cells: 2, Work: work(calls(allow(0, "a", 0)))}
	for late, now := range []int64{7, 7, 7, 0} {
		c.Picks = slices.Insert(picks(0, 0, 0), late, ticks(7))
		r := api.Reply{Granted: true, Left: 3, Now: now}
		wantRun(t, c, Report{Calls: []hist.Done{done(0, allow(0, "a", 0), 1, 3, r)}, Now: 7, Steps: 3})
	}
	c.Picks = []Pick{ticks(0), ticks(5), ticks(6)}
	wantRun(t, c, Report{Now: 11})
	c.Picks = []Pick{ticks(api.Max - 1), ticks(1)}
	wantRun(t, c, Report{Now: api.Max})
	c.Picks = []Pick{ticks(api.Max), ticks(api.Max), ticks(1)}
	wantRun(t, c, Report{Now: api.Max})
	for _, n := range append(noTicks, 1, api.Max) {
		c.Picks = []Pick{{0, n}, {0, n}}
		wantRun(t, c, Report{Steps: 2, Pending: 1})
	}
}

// Calls stand in the order in which they returned, with their own steps.
func TestOrderOfReturns(t *testing.T) {
	c := Config{Policies: table(), Cells: 2, Work: work(calls(acquire(1, "k")), calls(peek(1, "k"), peek(1, "j")), calls(evict))}
	c.Picks = picks(0, 1, 0, 1, 1, 2, 0, 0, 2, 0, 0, 1, 2, 0)
	wantRun(t, c, Report{
		Calls: []hist.Done{
			done(1, peek(1, "k"), 2, 4, api.Reply{Left: 2}),
			done(1, peek(1, "j"), 5, 12, api.Reply{Left: 2}),
			done(2, evict, 6, 13, api.Reply{}),
			done(0, acquire(1, "k"), 1, 14, api.Reply{Granted: true, Left: 1, Serial: 1}),
		},
		Cells: []api.Cell{at(1, "k", 0, 1)}, Steps: 14, Count: 1,
	})
}

// Behind all picks each worker from 0 on goes on alone, with what it has pending and
// with what is left.
func TestFinish(t *testing.T) {
	look, other := peek(1, "k"), peek(1, "j")
	c := Config{Policies: table(), Cells: 2, Work: work(calls(look, other), nil, calls(other, look), calls(look))}
	free := api.Reply{Left: 2}
	c.Finish = true
	wantRun(t, c, Report{Calls: []hist.Done{
		done(0, look, 1, 2, free), done(0, other, 3, 4, free),
		done(2, other, 5, 6, free), done(2, look, 7, 8, free),
		done(3, look, 9, 10, free),
	}, Steps: 10})
	c.Picks = append(picks(3, 2, 2, 2), ticks(5))
	wantRun(t, c, Report{Calls: []hist.Done{
		done(2, other, 2, 3, free),
		done(0, look, 5, 6, free), done(0, other, 7, 8, free),
		done(2, look, 4, 9, free),
		done(3, look, 1, 10, free),
	}, Now: 5, Steps: 10})
	c.Finish = false
	wantRun(t, c, Report{Calls: []hist.Done{done(2, other, 2, 3, free)}, Now: 5, Steps: 4, Pending: 2})
}

// A call that returns with its first step has First and Last alike.
func TestOneStep(t *testing.T) {
	c := Config{Policies: table(), Cells: 2, Work: work(slices.Repeat(calls(split), 5)), Finish: true}
	r, e := Run(c)
	if len(r.Calls) != 5 || e != api.OK {
		t.Fatal(r, e)
	}
	behind := 0
	for _, d := range r.Calls {
		if d.First != behind+1 || d.Last < d.First {
			t.Error(d, "behind", behind)
		}
		behind = d.Last
	}
	if got, want := r.Calls[4], done(0, split, r.Steps, r.Steps, api.Reply{E: api.ErrRange}); !sameDone(got, want) {
		t.Error(got, "is not", want)
	}
}

// What the limiter is like in the end: the count may be ahead of the cells; those
// are in the order of their identities.
func TestLimiterInTheEnd(t *testing.T) {
	c := Config{Policies: table(), Cells: 3, Work: work(calls(allow(0, "a", 1)))}
	c.Picks = make([]Pick, 4)
	wantRun(t, c, Report{Steps: 4, Pending: 1})
	c.Picks = make([]Pick, 5)
	wantRun(t, c, Report{Steps: 5, Count: 1, Pending: 1})
	c.Work = work(calls(acquire(1, "b"), acquire(1, "a"), allow(0, "z", 2), acquire(1, "b"), allow(0, "a", 1)))
	c.Picks, c.Finish = []Pick{ticks(100)}, true
	r, e := Run(c)
	want := []api.Cell{at(0, "z", 120), at(1, "a", 0, 2), at(1, "b", 0, 1, 3)}
	if e != api.OK || !slices.EqualFunc(r.Cells, want, sameCell) || r.Count != 3 || r.Pending != 0 {
		t.Error(r, e)
	}
	if len(r.Calls) != 5 || r.Calls[4].Reply != (api.Reply{E: api.ErrFull}) {
		t.Error(r.Calls)
	}
}

// A call that is left while it gives back what it had reserved is pending, though
// its cell has been put: of example 3 of chapter 17.
func TestLeftWhileGivingBack(t *testing.T) {
	one := allow(0, "a", 1)
	c := Config{Policies: table(), Cells: 2, Work: work(calls(one), calls(one))}
	c.Picks = picks(0, 0, 0, 1, 1, 1, 0, 0, 0, 1, 1, 1, 1, 1, 1, 1)
	first := done(0, one, 1, 9, api.Reply{Granted: true, Left: 2})
	wantRun(t, c, Report{Calls: []hist.Done{first}, Cells: []api.Cell{at(0, "a", 20)}, Steps: 16, Count: 2, Pending: 1})
	c.Finish = true
	last := done(1, one, 4, 18, api.Reply{Granted: true, Left: 1})
	wantRun(t, c, Report{Calls: []hist.Done{first, last}, Cells: []api.Cell{at(0, "a", 20)}, Steps: 18, Count: 1})
}

// Fields of a call that its Op doesn't use are told as they were handed in.
func TestCallsAreTold(t *testing.T) {
	odd := []api.Call{
		{Op: api.OpEvict, Policy: -7, Key: bytes.Repeat([]byte("k"), 300), N: -1},
		{Op: api.OpSplit, Policy: 99, Key: []byte("x"), N: math.MinInt64},
		{Op: api.OpPeek, Policy: 1, N: -9},
		{Op: api.OpAcquire, Policy: 1, Key: []byte{0, 255}, N: math.MaxInt64},
		{Op: api.OpRelease, Policy: 1, Key: bytes.Repeat([]byte("k"), 255), N: -3},
	}
	r, e := Run(Config{Policies: table(), Cells: 2, Work: work(odd), Finish: true})
	if e != api.OK || len(r.Calls) != len(odd) {
		t.Fatal(r, e)
	}
	for n, d := range r.Calls {
		if want := done(0, odd[n], d.First, d.Last, d.Reply); !sameDone(d, want) {
			t.Error(d, "is not", want)
		}
	}
}

// Errors

func TestWrongLimiters(t *testing.T) {
	for _, cells := range []int{0, -1, 4097, math.MinInt, math.MaxInt} {
		wantFault(t, Config{Policies: table(), Cells: cells}, api.ErrArg)
		wantFault(t, Config{Policies: []api.Policy{{}}, Cells: cells}, api.ErrArg)
	}
	wantRun(t, Config{Policies: table(), Cells: 4096}, Report{})
	wantRun(t, Config{Policies: slices.Repeat(table(), 16), Cells: 1}, Report{})
	wantFault(t, Config{Policies: append(slices.Repeat(table(), 16), aSema(1)), Cells: 1}, api.ErrLong)
	for _, p := range []api.Policy{{}, {Kind: 3}, aSema(0), aSema(65), aRate(0, 0), aRate(1, -1)} {
		wantFault(t, Config{Policies: append(table(), p), Cells: 1}, api.ErrForm)
	}
}

func TestWrongPicks(t *testing.T) {
	for workers := range 4 {
		c := Config{Policies: table(), Cells: 1, Work: make([][]api.Call, workers)}
		for _, who := range []int{-2, workers, workers + 1, 64, math.MinInt, math.MaxInt} {
			for _, late := range []int{0, 1, 5} {
				c.Picks = append(make([]Pick, 0, 9), slices.Repeat([]Pick{ticks(1)}, late)...)
				c.Picks = append(c.Picks, Pick{Who: who}, ticks(1))
				wantFault(t, c, api.ErrArg)
			}
		}
		for who := range workers {
			c.Picks = picks(who)
			wantRun(t, c, Report{})
		}
	}
	for _, n := range noTicks {
		wantFault(t, Config{Policies: table(), Cells: 1, Picks: []Pick{ticks(1), ticks(n), ticks(1)}}, api.ErrArg)
	}
}

func TestSizes(t *testing.T) {
	look := peek(1, "k")
	fits := []Config{
		{Work: make([][]api.Call, 64), Picks: picks(63)},
		{Work: work(slices.Repeat(calls(look), 4096))},
		{Work: slices.Repeat(work(slices.Repeat(calls(look), 64)), 64)},
		{Work: work(nil), Picks: make([]Pick, 65536)},
	}
	tooLong := []Config{
		{Work: make([][]api.Call, 65)},
		{Work: make([][]api.Call, 65), Picks: picks(64)},
		{Work: work(slices.Repeat(calls(look), 4097))},
		{Work: append(slices.Repeat(work(slices.Repeat(calls(look), 65)), 63), calls(look, look))},
		{Work: work(nil), Picks: make([]Pick, 65537)},
		{Work: work(nil), Picks: picks(slices.Repeat([]int{-1}, 65537)...)},
	}
	for n, c := range fits {
		c.Policies, c.Cells = table(), 1
		r, e := Run(c)
		if e != api.OK || r.Pending != 0 || len(r.Calls) != 0 || r.Steps != 0 {
			t.Error(n, e)
		}
	}
	for _, c := range tooLong {
		c.Policies, c.Cells = table(), 1
		wantFault(t, c, api.ErrLong)
	}
}

func TestWrongCalls(t *testing.T) {
	long := strings.Repeat("k", 256)
	for _, wrong := range []struct {
		call api.Call
		want api.Errno
	}{
		{api.Call{}, api.ErrArg},
		{api.Call{Op: 7}, api.ErrArg},
		{api.Call{Op: 255}, api.ErrArg},
		{allow(0, "a", -1), api.ErrArg},
		{allow(0, "a", api.Max+1), api.ErrArg},
		{allow(0, long, 1), api.ErrLong},
		{peek(9, long), api.ErrLong},
		{allow(9, "a", 1), api.ErrPolicy},
		{peek(-1, "a"), api.ErrPolicy},
		{peek(2, "a"), api.ErrPolicy},
		{allow(1, "a", 1), api.ErrPolicy},
		{acquire(0, "a"), api.ErrPolicy},
		{release(0, "a", 1), api.ErrPolicy},
	} {
		fine := calls(peek(1, "k"), evict, split)
		for _, w := range [][][]api.Call{
			work(calls(wrong.call)),
			work(calls(wrong.call), fine),
			work(nil, fine, append(slices.Clone(fine), wrong.call)),
			work(fine, append(calls(wrong.call), fine...), nil),
		} {
			// They are refused even where nobody begins them.
			wantFault(t, Config{Policies: table(), Cells: 2, Work: w}, wrong.want)
			wantFault(t, Config{Policies: table(), Cells: 2, Work: w, Picks: picks(0), Finish: true}, wrong.want)
		}
	}
	for _, list := range [][]api.Policy{nil, table()} {
		wantRun(t, Config{Policies: list, Cells: 2, Work: work(calls(evict)), Finish: true}, Report{
			Calls: []hist.Done{done(0, evict, 1, 3, api.Reply{})}, Steps: 3,
		})
	}
	wantFault(t, Config{Cells: 2, Work: work(calls(peek(0, "a")))}, api.ErrPolicy)
}

// Of several errors the least is answered; where there is no table, calls aren't
// asked for theirs.
func TestOrderOfErrors(t *testing.T) {
	noTable, longTable := append(table(), api.Policy{}), slices.Repeat(table(), 17)
	badArg, badLong, badPolicy := allow(0, "a", -1), peek(0, strings.Repeat("k", 256)), peek(5, "a")
	manyPicks := picks(slices.Repeat([]int{-1}, 65537)...)
	for n, wrong := range []struct {
		c    Config
		want api.Errno
	}{
		{Config{Policies: table(), Work: make([][]api.Call, 65)}, api.ErrArg},
		{Config{Policies: table(), Work: work(calls(badPolicy, badLong))}, api.ErrArg},
		{Config{Policies: noTable, Cells: 1, Picks: picks(0)}, api.ErrArg},
		{Config{Policies: longTable, Cells: 1, Picks: []Pick{ticks(-1)}}, api.ErrArg},
		{Config{Policies: table(), Cells: 1, Picks: append(manyPicks, ticks(-1))}, api.ErrArg},
		{Config{Policies: table(), Cells: 1, Work: make([][]api.Call, 65), Picks: picks(65)}, api.ErrArg},
		{Config{Policies: table(), Cells: 1, Work: work(calls(badPolicy, badLong, badArg)), Picks: manyPicks}, api.ErrArg},
		{Config{Policies: table(), Cells: 1, Work: work(calls(badPolicy), calls(badArg), calls(badLong))}, api.ErrArg},
		{Config{Policies: noTable, Cells: 1, Picks: manyPicks}, api.ErrLong},
		{Config{Policies: noTable, Cells: 1, Work: make([][]api.Call, 65)}, api.ErrLong},
		{Config{Policies: longTable, Cells: 1, Work: work(calls(badArg))}, api.ErrLong},
		{Config{Policies: table(), Cells: 1, Work: work(calls(badPolicy)), Picks: manyPicks}, api.ErrLong},
		{Config{Policies: table(), Cells: 1, Work: work(calls(badPolicy, badLong, badPolicy))}, api.ErrLong},
		{Config{Policies: table(), Cells: 1, Work: work(slices.Repeat(calls(badPolicy), 4097))}, api.ErrLong},
		{Config{Policies: noTable, Cells: 1, Work: work(calls(badArg, badLong, badPolicy))}, api.ErrForm},
		{Config{Policies: noTable, Cells: 1, Work: work(calls(badPolicy), calls(api.Call{}))}, api.ErrForm},
	} {
		if got, e := Run(wrong.c); !reflect.DeepEqual(got, Report{}) || e != wrong.want {
			t.Errorf("%d: %d, not %d", n, e, wrong.want)
		}
	}
}

// Memory

// What is handed in stays as it was, its spare room too, and nothing of the answer
// lies in it.
func TestMemory(t *testing.T) {
	key := append(make([]byte, 0, 8), "k"...)
	shared := api.Call{Op: api.OpAcquire, Policy: 1, Key: key}
	list := append(make([]api.Policy, 0, 4), table()...)
	first := append(make([]api.Call, 0, 4), shared, shared)
	lists := append(make([][]api.Call, 0, 4), first, calls(shared))
	steps := append(make([]Pick, 0, 8), picks(0, 1, 0, 1)...)
	c := Config{Policies: list, Cells: 2, Work: lists, Picks: steps, Finish: true}
	kept := func() Config {
		held := Config{Policies: slices.Clone(list[:4]), Cells: 2, Picks: slices.Clone(steps[:8])}
		for _, some := range [][]api.Call{first[:4], lists[1]} {
			some = slices.Clone(some)
			for n := range some {
				some[n].Key = slices.Clone(some[n].Key[:cap(some[n].Key)])
			}
			held.Work = append(held.Work, some)
		}
		return held
	}
	before := kept()
	r, e := Run(c)
	if e != api.OK || len(r.Calls) != 3 {
		t.Fatal(r, e)
	}
	if behind := kept(); !reflect.DeepEqual(behind, before) {
		t.Error(behind, "was", before)
	}
	again, _ := Run(c)
	// Each list of the answer is written over, its spare room too.
	scribble(r)
	if behind := kept(); !reflect.DeepEqual(behind, before) {
		t.Error(behind, "was", before)
	}
	for n, d := range r.Calls {
		if want := byte('A' + n); d.Call.Key[0] != want {
			t.Errorf("the key of the call %d is %q", n, d.Call.Key)
		}
	}
	if key[0] = 'x'; again.Calls[0].Call.Key[0] != 'k' || again.Cells[0].Key[0] != 'k' {
		t.Error("an answer lies in what was handed in:", again)
	}
	key[0] = 'k'
	if last, _ := Run(c); !sameReport(last, again) {
		t.Error(last, "is not", again)
	}
}

func scribble(r Report) {
	for n, d := range r.Calls {
		fill(d.Call.Key, byte('A'+n))
	}
	for _, c := range r.Cells {
		fill(c.Key, 'z')
		held := c.Held[:cap(c.Held)]
		for n := range held {
			held[n] = -1
		}
	}
}

func fill(p []byte, b byte) {
	p = p[:cap(p)]
	for n := range p {
		p[n] = b
	}
}
