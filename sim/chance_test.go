package sim

import (
	"iter"
	"math/rand"
	"slices"
	"strings"
	"testing"

	"spigot/api"
	"spigot/core"
	"spigot/hist"
	"spigot/rate"
)

// model is the chapter's words, told straight on: each worker's life is a coroutine
// that goes on by one step whenever it is asked.
type model struct {
	limiter  *core.Core
	begun    int
	returned []hist.Done
}

// life: one call behind the other, one step behind the other.
func (m *model) life(who int, list []api.Call) iter.Seq[int] {
	return func(yield func(int) bool) {
		for _, call := range list {
			m.begun++
			m.limiter.Start(who, call)
			var behind []int
			for {
				r, _ := m.limiter.Step(who)
				behind = append(behind, m.limiter.Steps())
				if r.Done {
					d := hist.Done{Who: who, Call: call, First: behind[0], Last: behind[len(behind)-1], Reply: r.Reply}
					m.returned = append(m.returned, d)
				}
				if !yield(len(behind)) {
					return
				}
				if r.Done {
					break
				}
			}
		}
	}
}

// play is a script, played by the model.
func (m *model) play(c Config) Report {
	m.limiter, _ = core.New(c.Policies, c.Cells)
	var ask []func() (int, bool)
	for who, list := range c.Work {
		next, stop := iter.Pull(m.life(who, list))
		defer stop()
		ask = append(ask, next)
	}
	now := int64(0)
	for _, p := range c.Picks {
		if p.Who >= 0 {
			ask[p.Who]()
		} else {
			now, _ = m.limiter.Tick(p.Ticks)
		}
	}
	for _, next := range ask {
		for goesOn := c.Finish; goesOn; {
			_, goesOn = next()
		}
	}
	return Report{
		Calls: m.returned, Cells: m.limiter.Cells(), Now: now,
		Steps: m.limiter.Steps(), Count: m.limiter.Count(), Pending: m.begun - len(m.returned),
	}
}

// holds looks at what follows of a report, chapter 19's P19.3.
func holds(t *testing.T, c Config, r Report) {
	t.Helper()
	if c.Finish {
		all := 0
		for _, list := range c.Work {
			all += len(list)
		}
		if r.Pending != 0 || len(r.Calls) != all || r.Count != int64(len(r.Cells)) {
			t.Errorf("%d calls of %d returned, %d pending, the count is %d of %d cells", len(r.Calls), all, r.Pending, r.Count, len(r.Cells))
		}
	}
	if r.Count < int64(len(r.Cells)) || r.Count > int64(c.Cells) || r.Pending > len(c.Work) {
		t.Error("the count is", r.Count, "of", len(r.Cells), "cells with the room", c.Cells)
	}
	ends := map[int]int{}
	for n, d := range r.Calls {
		if d.First > d.Last || d.Last > r.Steps || n > 0 && d.Last <= r.Calls[n-1].Last || d.First <= ends[d.Who] {
			t.Fatal("the times of the call", n, "are not in order:", d)
		}
		ends[d.Who] = d.Last
	}
	neverMore(t, c, r)
}

type identity struct {
	policy int
	key    string
}

// byIdentity is the calls on each.
func byIdentity(list []hist.Done) map[identity][]hist.Done {
	of := map[identity][]hist.Done{}
	for _, d := range list {
		if d.Call.Op < api.OpEvict {
			id := identity{d.Call.Policy, string(d.Call.Key)}
			of[id] = append(of[id], d)
		}
	}
	return of
}

func neverMore(t *testing.T, c Config, r Report) {
	t.Helper()
	given := map[int64]bool{}
	for id, some := range byIdentity(r.Calls) {
		if p := c.Policies[id.policy]; p.Kind == api.KindRate {
			neverMoreOfRate(t, p.Limit, some)
			continue
		}
		for _, d := range some {
			if s := d.Reply.Serial; s != 0 && given[s] {
				t.Error("two calls got the serial", s)
			} else if s != 0 {
				given[s] = true
			}
		}
		held := r.held(id)
		if len(held) > c.Policies[id.policy].Permits {
			t.Error(id, "holds", held)
		}
		if r.Pending == 0 && !slices.Equal(held, leftHeld(t, some)) {
			t.Error(id, "holds", held, "after", some)
		}
	}
}

func neverMoreOfRate(t *testing.T, l api.Limit, some []hist.Done) {
	t.Helper()
	granted := slices.DeleteFunc(slices.Clone(some), func(d hist.Done) bool { return !d.Reply.Granted })
	for _, a := range granted {
		for _, b := range granted {
			most, e := rate.Within(l, max(b.Reply.Now-a.Reply.Now, 0))
			if b.Reply.Now < a.Reply.Now || e != api.OK {
				continue
			}
			for _, d := range granted {
				if d.Reply.Now >= a.Reply.Now && d.Reply.Now <= b.Reply.Now {
					most -= d.Call.N
				}
			}
			if most < 0 {
				t.Error("too much granted from", a.Reply.Now, "to", b.Reply.Now, granted)
			}
		}
	}
}

// held is the serials under an identity in the end.
func (r Report) held(id identity) []int64 {
	for _, c := range r.Cells {
		if c.Policy == id.policy && string(c.Key) == id.key {
			return c.Held
		}
	}
	return nil
}

// leftHeld is what was given and not released.
func leftHeld(t *testing.T, some []hist.Done) []int64 {
	t.Helper()
	var held []int64
	for _, d := range some {
		if d.Reply.Serial != 0 {
			held = append(held, d.Reply.Serial)
		}
	}
	for _, d := range some {
		if d.Call.Op != api.OpRelease || !d.Reply.Granted {
			continue
		}
		at := slices.Index(held, d.Call.N)
		if at < 0 {
			t.Error("released twice, or never given:", d)
			return nil
		}
		held = slices.Delete(held, at, at+1)
	}
	slices.Sort(held)
	return held
}

// accepted looks whether there is an order of the calls on each identity, and tells
// on how many of them there are few enough.
func accepted(t *testing.T, c Config, r Report) int {
	t.Helper()
	few := 0
	for id, some := range byIdentity(r.Calls) {
		if len(some) > api.MaxCalls {
			continue
		}
		few++
		if ok, e := hist.Check(c.Policies, some); !ok || e != api.OK {
			t.Error("no order of the calls on", id, some, e)
		}
	}
	return few
}

// tables that the tests by chance pick from.
func tables() [][]api.Policy {
	return [][]api.Policy{
		table(),
		{aRate(10, 20)},
		{aSema(1)},
		{aSema(3), aRate(1, 0), aRate(7, 100), aSema(2)},
		{aRate(api.Max, api.Max), aRate(1, api.Max), aSema(64)},
	}
}

// script is a Config by chance.
func script(rnd *rand.Rand) Config {
	c := Config{Policies: tables()[rnd.Intn(5)], Cells: []int{1, 2, 3, 8, 4096}[rnd.Intn(5)], Finish: rnd.Intn(3) > 0}
	workers := rnd.Intn(7)
	keys := []string{"", "a", "b", "ab", "c", "\xff", strings.Repeat("k", 255)}[:1+rnd.Intn(7)]
	for range workers {
		var list []api.Call
		for range rnd.Intn(8) {
			list = append(list, anyCall(rnd, c.Policies, keys))
		}
		c.Work = append(c.Work, list)
	}
	most := []int64{2, 12, 100, api.Max / 4}[rnd.Intn(4)]
	for range rnd.Intn(200) {
		if who := rnd.Intn(workers + 1); who == workers || rnd.Intn(20) == 0 {
			c.Picks = append(c.Picks, Pick{Who: -1, Ticks: rnd.Int63n(most)})
		} else {
			c.Picks = append(c.Picks, Pick{Who: who, Ticks: rnd.Int63() - rnd.Int63()})
		}
	}
	return c
}

func anyCall(rnd *rand.Rand, list []api.Policy, keys []string) api.Call {
	policy, key := rnd.Intn(len(list)), keys[rnd.Intn(len(keys))]
	switch n := rnd.Intn(20); {
	case n == 0:
		return evict
	case n == 1:
		return split
	case n < 5:
		return peek(policy, key)
	case list[policy].Kind == api.KindRate:
		return allow(policy, key, []int64{0, 1, 1, 1, 2, 3, api.Max}[rnd.Intn(7)])
	case n < 14:
		return acquire(policy, key)
	}
	return release(policy, key, rnd.Int63n(8))
}

// P19.1, P19.2, P19.3

func TestByChance(t *testing.T) {
	rnd := rand.New(rand.NewSource(190))
	few, pending, errors := 0, 0, map[api.Errno]int{}
	for round := range 6000 {
		c := script(rnd)
		got, e := Run(c)
		if want := new(model).play(c); !sameReport(got, want) || e != api.OK {
			t.Fatalf("round %d: %v, %d, not %v", round, got, e, want)
		}
		holds(t, c, got)
		// A call that was left may have put its cell: others have seen what no history tells.
		if got.Pending == 0 {
			few += accepted(t, c, got)
		}
		pending += got.Pending
		for _, d := range got.Calls {
			errors[d.Reply.E]++
		}
		if t.Failed() {
			t.Fatal("round", round, c)
		}
	}
	if few < 10000 || pending < 1000 {
		t.Error("too few identities, or pending calls:", few, pending)
	}
	for _, e := range []api.Errno{api.OK, api.ErrBusy, api.ErrFull, api.ErrToken} {
		if errors[e] < 500 {
			t.Error("too few replies of an error:", errors)
		}
	}
}

// Who finishes goes on from where the picks have left the workers: what had returned
// by then is told as without.
func TestFinishGoesOn(t *testing.T) {
	rnd := rand.New(rand.NewSource(191))
	for round := range 1000 {
		c := script(rnd)
		c.Finish = false
		part, _ := Run(c)
		c.Finish = true
		whole, _ := Run(c)
		if n := len(part.Calls); n > len(whole.Calls) || !slices.EqualFunc(part.Calls, whole.Calls[:n], sameDone) {
			t.Fatal("round", round, part.Calls, whole.Calls)
		}
		if part.Now != whole.Now || part.Steps > whole.Steps {
			t.Fatal("round", round, part, whole)
		}
	}
}

// Every order of the first steps of two workers and the clock.
func TestAllOrders(t *testing.T) {
	for _, w := range [][][]api.Call{
		work(calls(allow(0, "a", 1), peek(0, "a")), calls(allow(0, "a", 2))),
		work(calls(acquire(1, "k"), release(1, "k", 1)), calls(acquire(1, "k"), release(1, "k", 2))),
		work(calls(acquire(1, "k"), evict), calls(allow(0, "a", 1), release(1, "k", 1))),
		work(calls(split), calls(allow(0, "a", 1), acquire(1, "k"))),
	} {
		for _, room := range []int{1, 2} {
			c := Config{Policies: table(), Cells: room, Work: w, Finish: true, Picks: make([]Pick, 8)}
			for order := range 6561 {
				for n := range c.Picks {
					c.Picks[n] = Pick{Who: order%3 - 1, Ticks: 15}
					order /= 3
				}
				r, e := Run(c)
				if e != api.OK {
					t.Fatal(e)
				}
				holds(t, c, r)
				accepted(t, c, r)
				if t.Failed() {
					t.Fatal(c)
				}
			}
		}
	}
}

// P1

// As many workers, calls and picks as there may be.
func TestGreatest(t *testing.T) {
	rnd := rand.New(rand.NewSource(192))
	var keys []string
	for n := range 1500 {
		keys = append(keys, string(rune('0'+n)))
	}
	for _, room := range []int{1, 100, 4096} {
		c := Config{Policies: slices.Repeat(table(), 16), Cells: room, Finish: true}
		for range api.MaxWorkers {
			var list []api.Call
			for range api.MaxSamples / api.MaxWorkers {
				list = append(list, anyCall(rnd, c.Policies, keys))
			}
			c.Work = append(c.Work, list)
		}
		for range api.MaxPicks {
			c.Picks = append(c.Picks, Pick{Who: rnd.Intn(api.MaxWorkers+1) - 1, Ticks: 1})
		}
		r, e := Run(c)
		if e != api.OK || len(r.Calls) != api.MaxSamples {
			t.Fatal(len(r.Calls), e)
		}
		holds(t, c, r)
	}
}
