package dir

import (
	"maps"
	"math/rand"
	"os"
	"runtime/debug"
	"slices"
	"testing"

	"spigot/api"
	"spigot/hash"
)

// Each order is played on things of its own, which are soon given up: to look for
// them as often as Go does takes more time than the orders.
func TestMain(m *testing.M) {
	debug.SetGCPercent(800)
	os.Exit(m.Run())
}

// P15.1 to P15.3

func TestByChance(t *testing.T) {
	rnd := rand.New(rand.NewSource(150))
	keys := []string{"", "a", "b", "a\x00", "ab", "\xff", "\x00", "c", "d", "e", "f", string(make([]byte, 256)), string(make([]byte, 257))}
	values := []int64{0, 1, 2, 7, api.Max, api.Max - 1, api.Max / 2, -1, api.Max + 1}
	levels := map[int]int{}
	for round := range 300 {
		w := watch(t)
		defer w.end()
		workers := []int{2, 3, 8, 66}[rnd.Intn(4)]
		some := keys[:1+rnd.Intn(len(keys))]
		splits := 1 + rnd.Intn(12)
		for range 400 {
			who := rnd.Intn(workers)
			switch rnd.Intn(14) {
			case 0, 1, 2, 3:
				op := byte(1 + rnd.Intn(3))
				if rnd.Intn(splits) == 0 {
					op = Split
				}
				w.start(t, who, op, some[rnd.Intn(len(some))], values[rnd.Intn(7)])
			case 4:
				w.start(t, who, byte(rnd.Intn(256)), some[0], 1)
			case 5:
				w.start(t, rnd.Intn(68)-2, byte(1+rnd.Intn(4)), keys[rnd.Intn(len(keys))], values[rnd.Intn(len(values))])
			case 6:
				w.step(t, rnd.Intn(68)-2)
			default:
				w.step(t, who)
			}
			w.hold(t)
			if t.Failed() {
				t.Fatal("round", round)
			}
		}
		level, _ := w.Level()
		levels[level]++
	}
	for level := range 5 {
		if levels[level] < 5 {
			t.Error("too few ends at a level:", levels)
		}
	}
}

// asked is a call of a set whose orders are looked at.
type asked struct {
	op    byte
	key   string
	value int64
}

// scene is where such a set begins: entries, Splits that were done, and steps of
// one that the worker 9 left for ever.
type scene struct {
	before map[string]int64
	splits int
	steps  int
	calls  []asked
}

func (s scene) begin(t *testing.T) *watched {
	w := watch(t)
	alone := func(c asked) {
		w.start(t, 9, c.op, c.key, c.value)
		for w.Pending(9) {
			w.step(t, 9)
		}
	}
	for range s.splits {
		alone(asked{op: Split})
	}
	for _, key := range slices.Sorted(maps.Keys(s.before)) {
		alone(asked{Put, key, s.before[key]})
	}
	if s.steps > 0 {
		w.start(t, 9, Split, "", 0)
		for range s.steps {
			w.step(t, 9)
		}
	}
	for who, c := range s.calls {
		w.start(t, who, c.op, c.key, c.value)
	}
	return w
}

// look plays the scene in every order of steps, and tells how many those are.
func (s scene) look(t *testing.T) int {
	t.Helper()
	// path is which of the pending calls went on at each step.
	var path []int
	for seen := 1; ; seen++ {
		w := s.begin(t)
		// What lies ahead of the last pick of path was looked at before.
		held := len(path) - 1
		var choices []int
		for {
			var pending []int
			for who := range s.calls {
				if w.Pending(who) {
					pending = append(pending, who)
				}
			}
			if len(pending) == 0 {
				break
			}
			depth := len(choices)
			if depth == len(path) {
				path = append(path, 0)
			}
			w.step(t, pending[path[depth]])
			choices = append(choices, len(pending))
			if depth >= held {
				w.hold(t)
			}
			if t.Failed() {
				t.Fatal(s, path)
			}
		}
		w.end()
		for len(path) > 0 && path[len(path)-1]+1 == choices[len(path)-1] {
			path = path[:len(path)-1]
		}
		if len(path) == 0 {
			return seen
		}
		path[len(path)-1]++
	}
}

// Every order of two calls, a Split having been left behind each of its steps.
// a and c lie in the one half, b and d in the other.
func TestAllOrdersOfTwo(t *testing.T) {
	calls := []asked{{Get, "a", 0}, {Put, "a", 1}, {Drop, "a", 0}, {Put, "b", 2}, {Put, "c", 3}}
	seen := 0
	for steps := range 9 {
		for i := range calls {
			for j := i; j < len(calls); j++ {
				s := scene{before: map[string]int64{"a": 8, "d": 7}, steps: steps, calls: []asked{calls[i], calls[j]}}
				seen += s.look(t)
			}
		}
	}
	if seen < 10000 {
		t.Error("no more orders than", seen)
	}
}

// Every order of a Split and another call, one more Split too.
func TestAllOrdersOfSplit(t *testing.T) {
	seen := 0
	for _, c := range []asked{{Get, "a", 0}, {Put, "a", 1}, {Drop, "a", 0}, {Drop, "b", 0}, {Split, "", 0}} {
		s := scene{before: map[string]int64{"a": 8, "d": 7}, calls: []asked{c, {op: Split}}}
		seen += s.look(t)
	}
	if seen < 10000 {
		t.Error("no more orders than", seen)
	}
}

// Every order of three calls at one level.
func TestAllOrdersOfThree(t *testing.T) {
	get, put, drop, other := asked{Get, "a", 0}, asked{Put, "a", 1}, asked{Drop, "a", 0}, asked{Put, "d", 2}
	seen := 0
	for _, s := range []scene{
		{calls: []asked{get, put, drop}},
		{calls: []asked{put, drop, other}},
		{calls: []asked{drop, drop, put}, before: map[string]int64{"a": 8}},
		{calls: []asked{get, put, drop}, before: map[string]int64{"a": 8}, splits: 4},
	} {
		seen += s.look(t)
	}
	if seen < 10000 {
		t.Error("no more orders than", seen)
	}
}

// From every state a call that is stepped alone returns within 128 steps.
func TestAloneReturnsSoon(t *testing.T) {
	rnd := rand.New(rand.NewSource(151))
	most := 0
	for range 400 {
		d := made(t)
		for range rnd.Intn(2000) {
			who := rnd.Intn(64)
			if d.Pending(who) {
				d.Step(who)
			} else if op := byte(1 + rnd.Intn(4)); op != Split || rnd.Intn(4) == 0 {
				d.Start(who, op, []byte(name(rnd.Intn(40))), 1)
			}
		}
		for _, who := range rnd.Perm(64) {
			if !d.Pending(who) {
				d.Start(who, byte(1+rnd.Intn(4)), []byte(name(rnd.Intn(40))), 1)
			}
			n := 0
			for ; d.Pending(who); n++ {
				if n == 128 {
					t.Fatal("no return within 128 steps")
				}
				d.Step(who)
			}
			most = max(most, n)
		}
	}
	if most < 50 {
		t.Error("no call took more steps than", most)
	}
}

// In every 4096 steps of the pending calls of 8 workers one of them returns.
func TestOneReturns(t *testing.T) {
	rnd := rand.New(rand.NewSource(152))
	picks := []func(n int) int{
		func(n int) int { return n % 8 },
		func(n int) int { return n / 2 % 8 },
		func(n int) int { return n / 3 % 8 },
		func(int) int { return rnd.Intn(8) },
		func(int) int { return min(rnd.Intn(8), rnd.Intn(8)) },
	}
	for round := range 200 {
		d := made(t)
		pick, since := picks[round%len(picks)], 0
		for n := range 6000 {
			who := pick(n)
			if !d.Pending(who) {
				op := []byte{Get, Put, Drop, Put, Split}[rnd.Intn(5)]
				if fault := d.Start(who, op, []byte(name(rnd.Intn(1+round))), 1); fault != api.OK {
					t.Fatal(fault)
				}
			}
			r, _ := d.Step(who)
			if since++; r.Done {
				since = 0
			}
			if since == 4096 {
				t.Fatal("nobody returned in 4096 steps")
			}
		}
	}
}

// Whatever returned OK at 64 workers has been done, the Splits in its midst or not.
func TestNothingIsLost(t *testing.T) {
	rnd := rand.New(rand.NewSource(153))
	for range 30 {
		w := watch(t)
		defer w.end()
		for round := range 6 {
			for who := range 64 {
				if who%16 == 0 {
					w.start(t, who, Split, "", 0)
				} else {
					w.start(t, who, []byte{Put, Put, Drop, Get}[rnd.Intn(4)], name(rnd.Intn(100)), int64(round))
				}
			}
			for len(w.work) > 0 && !t.Failed() {
				if who := rnd.Intn(64); w.Pending(who) {
					w.step(t, who)
				}
			}
			w.hold(t)
		}
		wantLevel(t, w.Dir, 4, false)
	}
}

// Split changes no entry, whatever those are.
func TestSplitChangesNoEntry(t *testing.T) {
	rnd := rand.New(rand.NewSource(154))
	for range 20 {
		d := made(t)
		var want []Entry
		for n := range rnd.Intn(300) {
			wantAlone(t, d, 0, Put, name(n), int64(n), 3, ok(int64(n)))
			want = append(want, at(name(n), int64(n)))
		}
		for {
			wantStart(t, d, 0, Split, "", 0, api.OK)
			r := empty
			for !r.Done {
				r, _ = d.Step(0)
				wantEntries(t, d, want...)
			}
			if r.E != api.OK {
				break
			}
		}
		wantLevel(t, d, 4, false)
		for _, e := range want {
			i, _ := hash.Shard(e.Key, 4)
			if wantAlone(t, d, i, Get, string(e.Key), 0, 2, ok(e.Value)); t.Failed() {
				t.Fatal(e, i)
			}
		}
	}
}
