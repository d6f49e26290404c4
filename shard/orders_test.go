package shard

import (
	"maps"
	"math/rand"
	"slices"
	"testing"

	"spigot/api"
)

// watched is a shard beside a plain map, on which each call that returned was done
// at once, at the step with which it did.
type watched struct {
	*Shard
	plain map[string]int64
	swaps int // how many were done
	work  map[int]*work
}

// work is a pending call.
type work struct {
	op     byte
	key    string
	value  int64
	loaded bool
	swaps  int // how many were done when it did its Load
}

func watch(t *testing.T) *watched {
	t.Helper()
	return &watched{Shard: made(t), plain: map[string]int64{}, work: map[int]*work{}}
}

func isTick(n int64) bool { return n >= 0 && n <= api.Max }

func (w *watched) start(t *testing.T, who int, op byte, key string, value int64) {
	t.Helper()
	want := api.OK
	switch {
	case who < 0 || who >= 64 || op < 1 || op > 4 || (op == 2 || op == 3) && !isTick(value):
		want = api.ErrArg
	case len(key) > 256:
		want = api.ErrLong
	case w.work[who] != nil:
		want = api.ErrBusy
	default:
		w.work[who] = &work{op: op, key: key, value: value}
	}
	wantStart(t, w.Shard, who, op, key, value, want)
}

func (w *watched) step(t *testing.T, who int) {
	t.Helper()
	at := w.work[who]
	if who < 0 || who >= 64 {
		wantStep(t, w.Shard, who, empty, api.ErrArg)
		return
	}
	if at == nil {
		wantStep(t, w.Shard, who, empty, api.ErrNone)
		return
	}
	var want Result
	if at.loaded {
		want, at.loaded = w.swap(at), false
	} else {
		want = w.load(at)
	}
	if want.Done {
		delete(w.work, who)
	}
	wantStep(t, w.Shard, who, want, api.OK)
}

// load: the call returns where nothing is to be changed.
func (w *watched) load(at *work) Result {
	value, is := w.plain[at.key]
	switch {
	case !is && (at.op == 1 || at.op == 4):
		return none
	case at.op == 1:
		return ok(value)
	case !is && len(w.plain) >= 4096:
		return full
	}
	at.loaded, at.swaps = true, w.swaps
	return empty
}

// swap: it is done, but where another call's was done since the Load.
func (w *watched) swap(at *work) Result {
	if at.swaps != w.swaps {
		return empty
	}
	w.swaps++
	value := w.plain[at.key]
	switch at.op {
	case 2:
		value = at.value
	case 3:
		value = min(value+at.value, api.Max)
	case 4:
		delete(w.plain, at.key)
		return ok(value)
	}
	w.plain[at.key] = value
	return ok(value)
}

// hold holds what the shard tells against what was told.
func (w *watched) hold(t *testing.T) {
	t.Helper()
	var want []Entry
	for _, key := range slices.Sorted(maps.Keys(w.plain)) {
		want = append(want, at(key, w.plain[key]))
	}
	wantState(t, w.Shard, int64(w.swaps)+1, want...)
	for _, who := range []int{-1, 0, 1, 2, 3, 8, 9, 62, 63, 64} {
		wantPending(t, w.Shard, who, w.work[who] != nil)
	}
}

// P14.1 to P14.3

func TestByChance(t *testing.T) {
	rnd := rand.New(rand.NewSource(140))
	keys := []string{"", "a", "b", "a\x00", "ab", "\xff", "\x00", "c", "d", string(make([]byte, 256)), string(make([]byte, 257))}
	values := []int64{0, 1, 2, 7, api.Max, api.Max - 1, api.Max / 2, -1, api.Max + 1}
	for round := range 400 {
		w := watch(t)
		workers := []int{2, 3, 8, 66}[rnd.Intn(4)]
		some := keys[:1+rnd.Intn(len(keys))]
		for range 300 {
			who := rnd.Intn(workers)
			switch rnd.Intn(12) {
			case 0, 1, 2, 3:
				w.start(t, who, byte(1+rnd.Intn(4)), some[rnd.Intn(len(some))], values[rnd.Intn(7)])
			case 4:
				w.start(t, who, byte(rnd.Intn(256)), some[0], 1)
			case 5:
				w.start(t, rnd.Intn(68)-2, byte(1+rnd.Intn(4)), keys[rnd.Intn(len(keys))], values[rnd.Intn(len(values))])
			case 6:
				w.step(t, rnd.Intn(68)-2)
			default:
				w.step(t, who)
			}
			w.hold(t)
			if t.Failed() {
				t.Fatal("round", round)
			}
		}
	}
}

// orders looks at all orders of steps of some calls: for each it runs the steps
// that lead there anew, because a shard can't be copied.
type orders struct {
	before map[string]int64
	calls  []work
	seen   int
}

func (o *orders) run(t *testing.T, picks []int) *watched {
	t.Helper()
	w := watch(t)
	for _, key := range slices.Sorted(maps.Keys(o.before)) {
		w.start(t, 9, Put, key, o.before[key])
		w.step(t, 9)
		w.step(t, 9)
	}
	for who, c := range o.calls {
		w.start(t, who, c.op, c.key, c.value)
	}
	for _, who := range picks {
		w.step(t, who)
	}
	w.hold(t)
	return w
}

func (o *orders) look(t *testing.T, picks []int) {
	t.Helper()
	o.seen++
	w := o.run(t, picks)
	if t.Failed() {
		t.Fatal(o.before, o.calls, picks)
	}
	for who := range o.calls {
		if w.Pending(who) {
			o.look(t, append(slices.Clip(picks), who))
		}
	}
}

// In every order of three calls, of all kinds, on one key and on two.
func TestAllOrders(t *testing.T) {
	calls := []work{{op: Get, key: "a"}, {op: Put, key: "a", value: 1}, {op: Add, key: "a", value: 2}, {op: Drop, key: "a"}, {op: Put, key: "b", value: 4}}
	seen := 0
	for _, before := range []map[string]int64{{}, {"a": 8}, {"a": api.Max, "c": 3}} {
		for i := range calls {
			for j := i; j < len(calls); j++ {
				for k := j; k < len(calls); k++ {
					o := &orders{before: before, calls: []work{calls[i], calls[j], calls[k]}}
					o.look(t, nil)
					seen += o.seen
				}
			}
		}
	}
	if seen < 10000 {
		t.Error("no more orders than", seen)
	}
}

// Nothing of many calls at one time is lost: each that returned OK has been done.
func TestNothingIsLost(t *testing.T) {
	rnd := rand.New(rand.NewSource(143))
	for range 30 {
		w := watch(t)
		for who := range 64 {
			w.start(t, who, Add, name(who%3), 1)
		}
		for len(w.work) > 0 && !t.Failed() {
			w.step(t, rnd.Intn(64))
		}
		wantState(t, w.Shard, 65, at(name(0), 22), at(name(1), 21), at(name(2), 21))
	}
}
