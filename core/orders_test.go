package core

import (
	"maps"
	"math/rand"
	"os"
	"runtime/debug"
	"slices"
	"strings"
	"testing"

	"spigot/api"
)

// Each order is played on things of its own, which are soon given up: to look for
// them as often as Go does takes more time than the orders.
func TestMain(m *testing.M) {
	debug.SetGCPercent(800)
	os.Exit(m.Run())
}

// P17.1 to P17.5

// tables that the tests by chance pick from.
func tables() [][]api.Policy {
	return [][]api.Policy{
		table(),
		{aRate(10, 20)},
		{aSema(1)},
		{aSema(3), aRate(1, 0), aRate(7, 100), aSema(2)},
		{aRate(api.Max, api.Max), aRate(1, api.Max), aSema(64)},
		slices.Repeat(table(), 16),
		{},
	}
}

// asking picks calls for a limiter.
type asking struct {
	*rand.Rand
	list   []api.Policy
	keys   []string
	evicts int // one of so many
	splits int
}

// call is one that Check mostly accepts.
func (a asking) call(given int64) api.Call {
	switch {
	case a.Intn(a.evicts) == 0:
		return evict
	case a.Intn(a.splits) == 0:
		return split
	}
	policy, key := 0, a.keys[a.Intn(len(a.keys))]
	if len(a.list) > 0 {
		policy = a.Intn(len(a.list))
	}
	if a.Intn(6) == 0 {
		return peek(policy, key)
	}
	if len(a.list) == 0 || a.list[policy].Kind == api.KindRate {
		costs := []int64{0, 1, 1, 1, 2, 3, 10, api.Max}
		return allow(policy, key, costs[a.Intn(len(costs))])
	}
	if a.Intn(2) == 0 {
		return acquire(policy, key)
	}
	return release(policy, key, a.Int63n(given+2))
}

// anything is a call of whatever fields.
func (a asking) anything() api.Call {
	numbers := []int64{0, 1, -1, 2, api.Max, api.Max + 1}
	keys := append([]string{strings.Repeat("k", 256)}, a.keys...)
	return api.Call{Op: byte(a.Intn(9)), Policy: a.Intn(40) - 2, Key: []byte(keys[a.Intn(len(keys))]), N: numbers[a.Intn(len(numbers))]}
}

func TestByChance(t *testing.T) {
	rnd := rand.New(rand.NewSource(170))
	keys := []string{"", "a", "b", "a\x00", "ab", "\xff", "c", "d", "e", "f", strings.Repeat("k", 255)}
	levels, errors := map[int]int{}, map[api.Errno]int{}
	for round := range 400 {
		list := tables()[rnd.Intn(len(tables()))]
		w := watch(t, list, []int{1, 2, 3, 5, 12, 4096}[rnd.Intn(6)])
		defer w.end()
		a := asking{rnd, list, keys[:1+rnd.Intn(len(keys))], 2 + rnd.Intn(40), 2 + rnd.Intn(30)}
		workers := []int{2, 3, 8, 66}[rnd.Intn(4)]
		ticks := []int64{2, 12, 100, api.Max / 8}[rnd.Intn(4)]
		for range 500 {
			who := rnd.Intn(workers)
			switch n := rnd.Intn(24); {
			case n < 6:
				w.start(t, who, a.call(w.given()))
			case n == 6:
				w.start(t, rnd.Intn(68)-2, a.anything())
			case n == 7:
				w.step(t, rnd.Intn(68)-2)
			case n == 8:
				w.tick(t, rnd.Int63n(ticks))
			default:
				if r := w.step(t, who); r.Done {
					errors[r.Reply.E]++
				}
			}
			w.hold(t)
			if t.Failed() {
				t.Fatal("round", round)
			}
		}
		w.asIfAtOnce(t)
		w.neverMore(t)
		if t.Failed() {
			t.Fatal("round", round)
		}
		level, _ := w.Level()
		levels[level]++
	}
	for level := range 5 {
		if levels[level] < 5 {
			t.Error("too few ends at a level:", levels)
		}
	}
	for _, e := range []api.Errno{api.OK, api.ErrRange, api.ErrBusy, api.ErrFull, api.ErrToken} {
		if errors[e] < 20 {
			t.Error("too few replies of an error:", errors)
		}
	}
}

// given is the serial that was given last.
func (w *watched) given() int64 { return int64(w.model.words[theLast]) }

// scene is where a set of calls begins whose orders are looked at: calls that were
// done, ticks, steps of one that the worker 9 left for ever.
type scene struct {
	list   []api.Policy
	room   int
	before []api.Call
	ticks  int64
	left   api.Call
	steps  int
	calls  []api.Call
}

func (s scene) begin(t *testing.T) *watched {
	w := watch(t, s.list, s.room)
	for _, c := range s.before {
		w.start(t, 9, c)
		for w.Pending(9) {
			w.step(t, 9)
		}
	}
	if s.steps > 0 {
		w.start(t, 9, s.left)
		for range s.steps {
			w.step(t, 9)
		}
	}
	w.tick(t, s.ticks)
	for who, c := range s.calls {
		w.start(t, who, c)
	}
	return w
}

// look plays the scene in every order of steps, and tells how many those are.
func (s scene) look(t *testing.T) int {
	t.Helper()
	// path is which of the pending calls went on at each step.
	var path []int
	for seen := 1; ; seen++ {
		w := s.begin(t)
		// What lies ahead of the last pick of path was looked at before.
		held := len(path) - 1
		var choices []int
		for {
			var pending []int
			for who := range s.calls {
				if w.Pending(who) {
					pending = append(pending, who)
				}
			}
			if len(pending) == 0 {
				break
			}
			depth := len(choices)
			if depth == len(path) {
				path = append(path, 0)
			}
			w.step(t, pending[path[depth]])
			choices = append(choices, len(pending))
			if depth >= held {
				w.hold(t)
			}
			if t.Failed() {
				t.Fatal(s, path)
			}
		}
		w.asIfAtOnce(t)
		w.neverMore(t)
		w.end()
		if t.Failed() {
			t.Fatal(s, path)
		}
		for len(path) > 0 && path[len(path)-1]+1 == choices[len(path)-1] {
			path = path[:len(path)-1]
		}
		if len(path) == 0 {
			return seen
		}
		path[len(path)-1]++
	}
}

// Every order of two calls on new cells and on old ones, with room for one more.
func TestAllOrdersOfTwo(t *testing.T) {
	calls := []api.Call{allow(0, "a", 1), allow(0, "b", 2), acquire(1, "k"), release(1, "k", 1), peek(0, "a"), evict}
	seen := 0
	for _, s := range []scene{
		{room: 1},
		{room: 2, before: []api.Call{acquire(1, "k")}},
		{room: 3, before: []api.Call{allow(0, "a", 1), acquire(1, "k"), release(1, "k", 1)}, ticks: 10},
	} {
		s.list = table()
		for i := range calls {
			for j := i; j < len(calls); j++ {
				s.calls = []api.Call{calls[i], calls[j]}
				seen += s.look(t)
			}
		}
	}
	if seen < 10000 {
		t.Error("no more orders than", seen)
	}
}

// Every order of two calls, a Split having been left behind some of its steps.
func TestAllOrdersOfMoving(t *testing.T) {
	seen := 0
	for steps := 2; steps < 9; steps += 2 {
		s := scene{list: table(), room: 3, before: []api.Call{acquire(1, "k"), allow(0, "b", 1)}, left: split, steps: steps}
		pairs := [][]api.Call{
			{allow(0, "b", 1), allow(0, "b", 1)},
			{release(1, "k", 1), acquire(1, "k")},
			{release(1, "k", 1), peek(1, "k")},
		}
		if steps >= 6 {
			pairs = append(pairs, []api.Call{allow(0, "a", 1), allow(0, "a", 1)}, []api.Call{acquire(1, "j"), allow(0, "a", 1)})
		}
		for _, pair := range pairs {
			s.calls = pair
			seen += s.look(t)
		}
	}
	if seen < 10000 {
		t.Error("no more orders than", seen)
	}
}

// Every order of a Split and a short call.
func TestAllOrdersOfSplit(t *testing.T) {
	seen := 0
	for _, c := range []api.Call{release(1, "k", 1), peek(0, "b")} {
		s := scene{list: table(), room: 3, before: []api.Call{acquire(1, "k"), allow(0, "b", 1)}, calls: []api.Call{c, split}}
		seen += s.look(t)
	}
	if seen < 10000 {
		t.Error("no more orders than", seen)
	}
}

// Every order of three short calls.
func TestAllOrdersOfThree(t *testing.T) {
	seen := 0
	for _, s := range []scene{
		{before: []api.Call{allow(0, "a", 1)}, calls: []api.Call{allow(0, "a", 1), peek(0, "a"), allow(0, "a", 3)}},
		{before: []api.Call{acquire(1, "k")}, calls: []api.Call{release(1, "k", 1), release(1, "k", 1), peek(1, "k")}},
		{before: []api.Call{acquire(1, "k"), acquire(1, "k")}, calls: []api.Call{release(1, "k", 2), acquire(1, "k"), peek(1, "k")}},
	} {
		s.list, s.room = table(), 2
		seen += s.look(t)
	}
	if seen < 1000 {
		t.Error("no more orders than", seen)
	}
}

// From every state a call that is stepped alone returns within 512 steps.
func TestAloneReturnsSoon(t *testing.T) {
	rnd := rand.New(rand.NewSource(171))
	most := 0
	for range 300 {
		c := made(t, table(), 40)
		a := asking{rnd, table(), names(60), 2 + rnd.Intn(20), 2 + rnd.Intn(200)}
		for range rnd.Intn(3000) {
			if who := rnd.Intn(64); c.Pending(who) {
				c.Step(who)
			} else {
				c.Start(who, a.call(20))
			}
			if rnd.Intn(50) == 0 {
				c.Tick(rnd.Int63n(20))
			}
		}
		for _, who := range rnd.Perm(64) {
			if !c.Pending(who) {
				c.Start(who, a.call(20))
			}
			n := 0
			for ; c.Pending(who); n++ {
				if n == 512 {
					t.Fatal("no return within 512 steps")
				}
				c.Step(who)
			}
			most = max(most, n)
		}
		if got := len(c.Cells()); int64(got) != c.Count() {
			t.Fatal("the count is", c.Count(), "with", got, "cells and no call pending")
		}
	}
	if most < 100 {
		t.Error("no call took more steps than", most)
	}
}

func names(n int) []string {
	var list []string
	for i := range n {
		list = append(list, string(rune('0'+i)))
	}
	return list
}

// In every 16384 steps of the pending calls of 8 workers one of them returns.
func TestOneReturns(t *testing.T) {
	rnd := rand.New(rand.NewSource(172))
	picks := []func(n int) int{
		func(n int) int { return n % 8 },
		func(n int) int { return n / 2 % 8 },
		func(n int) int { return n / 3 % 8 },
		func(int) int { return rnd.Intn(8) },
		func(int) int { return min(rnd.Intn(8), rnd.Intn(8)) },
	}
	most := 0
	for round := range 200 {
		c := made(t, table(), 1+round/2)
		a := asking{rnd, table(), names(1 + round), 5, 20}
		pick, since := picks[round%len(picks)], 0
		for n := range 5000 {
			who := pick(n)
			if !c.Pending(who) {
				if e := c.Start(who, a.call(20)); e != api.OK {
					t.Fatal(e)
				}
			}
			r, _ := c.Step(who)
			if since++; r.Done {
				since = 0
			}
			if most = max(most, since); since == 16384 {
				t.Fatal("nobody returned in 16384 steps")
			}
			if n%100 == 0 {
				c.Tick(rnd.Int63n(30))
			}
		}
	}
	if most < 20 {
		t.Error("always one returned within", most)
	}
}

// 64 workers, the room far too small, Evicts and Splits in their midst: nothing is
// lost, and in the end nothing is counted that isn't there.
func TestManyWorkers(t *testing.T) {
	rnd := rand.New(rand.NewSource(173))
	for round := range 12 {
		w := watch(t, table(), 10+round*5)
		defer w.end()
		a := asking{rnd, table(), names(60), 12, 60}
		for range 8 {
			for who := range 64 {
				w.start(t, who, a.call(w.given()))
			}
			for len(w.work) > 0 && !t.Failed() {
				who := slices.Sorted(maps.Keys(w.work))[rnd.Intn(len(w.work))]
				w.step(t, who)
			}
			w.tick(t, rnd.Int63n(30))
			w.hold(t)
		}
		w.asIfAtOnce(t)
		w.neverMore(t)
	}
}

// As many cells as there may be.
func TestManyCells(t *testing.T) {
	c := made(t, table(), api.MaxCells)
	keys := names(api.MaxCells)
	alone := func(call api.Call) api.Reply {
		if e := c.Start(5, call); e != api.OK {
			t.Fatal(e)
		}
		for {
			if r, _ := c.Step(5); r.Done {
				return r.Reply
			}
		}
	}
	for n, key := range keys {
		call := allow(0, key, 1)
		if n%2 == 1 {
			call = acquire(1, key)
		}
		if r := alone(call); !r.Granted {
			t.Fatal(n, r)
		}
		if n%1000 == 0 {
			alone(split)
		}
	}
	if r := alone(acquire(1, "none")); r != fault(api.ErrFull) {
		t.Error(r)
	}
	c.Tick(10)
	if r := alone(evict); r != (api.Reply{Left: api.MaxCells / 2}) {
		t.Error(r)
	}
	if got := len(c.Cells()); got != api.MaxCells/2 || c.Count() != api.MaxCells/2 {
		t.Error(got, c.Count())
	}
}
