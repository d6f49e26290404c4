package core

import (
	"bytes"
	"math"
	"slices"
	"strings"
	"testing"

	"spigot/api"
	"spigot/book"
	"spigot/cut"
)

var noTicks = []int64{-1, -2, math.MinInt64, api.Max + 1, math.MaxInt64}

var noWorkers = []int{-1, 64, 65, math.MinInt, math.MaxInt}

// table is that of the chapter's examples.
func table() []api.Policy {
	return []api.Policy{aRate(10, 20), aSema(2)}
}

func aRate(t, tau int64) api.Policy {
	return api.Policy{Kind: api.KindRate, Limit: api.Limit{T: t, Tau: tau}}
}

func aSema(permits int) api.Policy {
	return api.Policy{Kind: api.KindSema, Permits: permits}
}

func allow(policy int, key string, n int64) api.Call {
	return api.Call{Op: api.OpAllow, Policy: policy, Key: []byte(key), N: n}
}

func acquire(policy int, key string) api.Call {
	return api.Call{Op: api.OpAcquire, Policy: policy, Key: []byte(key)}
}

func release(policy int, key string, n int64) api.Call {
	return api.Call{Op: api.OpRelease, Policy: policy, Key: []byte(key), N: n}
}

func peek(policy int, key string) api.Call {
	return api.Call{Op: api.OpPeek, Policy: policy, Key: []byte(key)}
}

var (
	evict = api.Call{Op: api.OpEvict}
	split = api.Call{Op: api.OpSplit}
	empty Result
)

// fault is a reply with nothing but an error.
func fault(e api.Errno) api.Reply { return api.Reply{E: e} }

func done(r api.Reply) Result { return Result{Done: true, Reply: r} }

func at(policy int, key string, tat int64, held ...int64) api.Cell {
	return api.Cell{Policy: policy, Key: []byte(key), TAT: tat, Held: held}
}

func made(t *testing.T, list []api.Policy, room int) *Core {
	c, e := New(list, room)
	if c == nil || e != api.OK {
		t.Fatal("New =", c, e)
	}
	return c
}

func wantStart(t *testing.T, c *Core, who int, call api.Call, want api.Errno) {
	if got := c.Start(who, call); got != want {
		t.Helper()
		t.Errorf("Start(%d, {%d %d %.20q %d}) = %d, not %d", who, call.Op, call.Policy, call.Key, call.N, got, want)
	}
}

func wantStep(t *testing.T, c *Core, who int, want Result, e api.Errno) {
	if got, fault := c.Step(who); got != want || fault != e {
		t.Helper()
		t.Errorf("Step(%d) = %v, %d, not %v, %d", who, got, fault, want, e)
	}
}

// wantSteps: so many steps, the last of which brings want, the others nothing.
func wantSteps(t *testing.T, c *Core, who, steps int, want Result) {
	t.Helper()
	for range steps - 1 {
		wantStep(t, c, who, empty, api.OK)
	}
	wantStep(t, c, who, want, api.OK)
}

// wantAlone: a call, begun and stepped alone, returns with the last of so many steps.
func wantAlone(t *testing.T, c *Core, who int, call api.Call, steps int, want api.Reply) {
	t.Helper()
	wantStart(t, c, who, call, api.OK)
	wantSteps(t, c, who, steps, done(want))
	wantPending(t, c, who, false)
}

func wantPending(t *testing.T, c *Core, who int, want bool) {
	if got := c.Pending(who); got != want {
		t.Helper()
		t.Errorf("Pending(%d) = %t", who, got)
	}
}

func sameCell(a, b api.Cell) bool {
	return a.Policy == b.Policy && bytes.Equal(a.Key, b.Key) && a.TAT == b.TAT && slices.Equal(a.Held, b.Held)
}

// wantCells: the cells, and the count.
func wantCells(t *testing.T, c *Core, count int64, want ...api.Cell) {
	if got := c.Cells(); !slices.EqualFunc(got, want, sameCell) {
		t.Helper()
		t.Errorf("Cells = %v, not %v", got, want)
	}
	if got := c.Count(); got != count {
		t.Helper()
		t.Errorf("Count = %d, not %d", got, count)
	}
}

func wantLevel(t *testing.T, c *Core, level int, moving bool) {
	if l, m := c.Level(); l != level || m != moving {
		t.Helper()
		t.Errorf("Level = %d, %t, not %d, %t", l, m, level, moving)
	}
}

func wantTick(t *testing.T, c *Core, n, want int64, e api.Errno) {
	if got, fault := c.Tick(n); got != want || fault != e {
		t.Helper()
		t.Errorf("Tick(%d) = %d, %d, not %d, %d", n, got, fault, want, e)
	}
}

// P17.1

func TestNew(t *testing.T) {
	bad := []api.Policy{{}}
	for _, c := range []struct {
		list []api.Policy
		room int
		want api.Errno
	}{
		{nil, 1, api.OK},
		{table(), 1, api.OK},
		{table(), 4096, api.OK},
		{slices.Repeat(table(), 16), 2, api.OK},
		{table(), 0, api.ErrArg},
		{table(), -1, api.ErrArg},
		{table(), 4097, api.ErrArg},
		{table(), math.MaxInt, api.ErrArg},
		{table(), math.MinInt, api.ErrArg},
		{slices.Repeat(table(), 17), 1, api.ErrLong},
		{slices.Repeat(table(), 17), 0, api.ErrArg},
		{slices.Repeat(bad, 33), 1, api.ErrLong},
		{bad, 1, api.ErrForm},
		{bad, 0, api.ErrArg},
		{append(table(), bad...), 1, api.ErrForm},
		{[]api.Policy{aSema(65)}, 1, api.ErrForm},
		{[]api.Policy{aRate(0, 0)}, 1, api.ErrForm},
	} {
		got, e := New(c.list, c.room)
		if e != c.want || (got == nil) != (e != api.OK) {
			t.Error(c, got, e)
		}
		if got != nil {
			wantCells(t, got, 0)
			wantLevel(t, got, 0, false)
			if got.Steps() != 0 {
				t.Error("Steps =", got.Steps())
			}
			wantTick(t, got, 0, 0, api.OK)
		}
	}
}

// What was handed in is not kept.
func TestNothingIsKept(t *testing.T) {
	list := table()
	c := made(t, list, 2)
	clear(list)
	call := allow(0, "ab", 1)
	wantStart(t, c, 0, call, api.OK)
	copy(call.Key, "zz")
	wantSteps(t, c, 0, 6, done(api.Reply{Granted: true, Left: 2}))
	wantCells(t, c, 1, at(0, "ab", 10))
	wantAlone(t, c, 0, acquire(1, "k"), 7, api.Reply{Granted: true, Left: 1, Serial: 1})
	// An answer is new memory.
	for range 2 {
		cells := c.Cells()
		if !slices.EqualFunc(cells, []api.Cell{at(0, "ab", 10), at(1, "k", 0, 1)}, sameCell) {
			t.Error(cells)
		}
		copy(cells[0].Key, "yy")
		copy(cells[1].Key, "y")
		cells[1].Held[0] = 9
		_ = append(cells[1].Held, 7)
		clear(cells)
	}
	wantAlone(t, c, 0, release(1, "k", 9), 2, fault(api.ErrToken))
	wantAlone(t, c, 0, release(1, "k", 1), 3, api.Reply{Granted: true, Left: 2})
}

// Two of them have nothing to do with one another.
func TestTwoCores(t *testing.T) {
	x, y := made(t, table(), 2), made(t, table(), 2)
	wantAlone(t, x, 0, acquire(1, "k"), 7, api.Reply{Granted: true, Left: 1, Serial: 1})
	wantTick(t, x, 5, 5, api.OK)
	wantStart(t, x, 1, split, api.OK)
	wantPending(t, y, 1, false)
	wantCells(t, y, 0)
	wantAlone(t, y, 0, acquire(1, "k"), 7, api.Reply{Granted: true, Left: 1, Serial: 1})
	wantAlone(t, y, 0, allow(0, "k", 1), 6, api.Reply{Granted: true, Left: 2})
}

func TestExamples(t *testing.T) {
	c := made(t, table(), 2)
	wantTick(t, c, 100, 100, api.OK)
	wantAlone(t, c, 0, allow(0, "a", 1), 6, api.Reply{Granted: true, Left: 2, Now: 100})
	wantAlone(t, c, 0, allow(0, "a", 1), 4, api.Reply{Granted: true, Left: 1, Now: 100})
	wantAlone(t, c, 0, peek(0, "a"), 3, api.Reply{Left: 1, Wait: 20, Now: 100})

	wantAlone(t, c, 1, acquire(1, "k"), 7, api.Reply{Granted: true, Left: 1, Serial: 1})
	wantAlone(t, c, 1, release(1, "k", 1), 3, api.Reply{Granted: true, Left: 2})
	wantAlone(t, c, 1, release(1, "k", 1), 2, fault(api.ErrToken))

	wantCells(t, c, 2, at(0, "a", 120), at(1, "k", 0))
	wantAlone(t, c, 2, allow(0, "z", 1), 4, fault(api.ErrFull))
	wantTick(t, c, 20, 120, api.OK)
	wantAlone(t, c, 2, evict, 7, api.Reply{Left: 2})
	wantCells(t, c, 0)
	if got := c.Steps(); got != 6+4+3+7+3+2+4+7 {
		t.Error("Steps =", got)
	}
}

// Two Allows of one new key: the one that comes too late gives its room back.
func TestExampleOfTwo(t *testing.T) {
	c := made(t, table(), 2)
	for who := range 2 {
		wantStart(t, c, who, allow(0, "n", 1), api.OK)
		for range 3 {
			wantStep(t, c, who, empty, api.OK)
		}
	}
	wantSteps(t, c, 0, 3, done(api.Reply{Granted: true, Left: 2}))
	wantCells(t, c, 1, at(0, "n", 10))
	wantSteps(t, c, 1, 3, empty)
	wantCells(t, c, 2, at(0, "n", 10))
	wantSteps(t, c, 1, 4, empty)
	wantCells(t, c, 2, at(0, "n", 20))
	wantSteps(t, c, 1, 2, done(api.Reply{Granted: true, Left: 1}))
	wantCells(t, c, 1, at(0, "n", 20))
}

// What a call returns at, alone, whatever it is.
func TestStepsAlone(t *testing.T) {
	c := made(t, table(), 3)
	alone := func(call api.Call, steps int, want api.Reply) {
		t.Helper()
		wantAlone(t, c, 7, call, steps, want)
	}
	alone(peek(0, "a"), 3, api.Reply{Left: 3})
	alone(peek(1, "k"), 2, api.Reply{Left: 2})
	alone(release(1, "k", 1), 2, fault(api.ErrToken))
	alone(release(1, "k", 0), 2, fault(api.ErrToken))
	alone(release(1, "k", -1), 2, fault(api.ErrToken))
	alone(release(1, "k", math.MaxInt64), 2, fault(api.ErrToken))
	alone(evict, 3, api.Reply{})
	alone(allow(0, "a", 0), 3, api.Reply{Granted: true, Left: 3})
	alone(allow(0, "a", 4), 3, api.Reply{Left: 3, Wait: api.Max})
	alone(allow(0, "a", api.Max), 3, api.Reply{Left: 3, Wait: api.Max})
	wantCells(t, c, 0)
	alone(allow(0, "a", 3), 6, api.Reply{Granted: true})
	alone(allow(0, "a", 0), 3, api.Reply{Granted: true})
	alone(allow(0, "a", 1), 3, api.Reply{Wait: 10})
	alone(evict, 4, api.Reply{})
	wantTick(t, c, 10, 10, api.OK)
	alone(peek(0, "a"), 3, api.Reply{Left: 1, Wait: 20, Now: 10})
	alone(allow(0, "a", 1), 4, api.Reply{Granted: true, Now: 10})
	alone(acquire(1, "k"), 7, api.Reply{Granted: true, Left: 1, Serial: 1})
	alone(acquire(1, "k"), 5, api.Reply{Granted: true, Serial: 2})
	alone(acquire(1, "k"), 2, fault(api.ErrBusy))
	alone(peek(1, "k"), 2, api.Reply{})
	alone(acquire(1, "j"), 7, api.Reply{Granted: true, Left: 1, Serial: 3})
	// The serial was given, the room is used up.
	alone(acquire(1, "i"), 5, fault(api.ErrFull))
	alone(acquire(1, "i"), 5, fault(api.ErrFull))
	alone(acquire(1, "j"), 5, api.Reply{Granted: true, Serial: 6})
	alone(release(1, "j", 3), 3, api.Reply{Granted: true, Left: 1})
	alone(release(1, "j", 3), 2, fault(api.ErrToken))
	alone(release(1, "k", 6), 2, fault(api.ErrToken))
	alone(release(1, "j", 6), 3, api.Reply{Granted: true, Left: 2})
	wantCells(t, c, 3, at(0, "a", 40), at(1, "j", 0), at(1, "k", 0, 1, 2))
	alone(allow(0, "b", 1), 4, fault(api.ErrFull))
	alone(allow(0, "b", 0), 3, api.Reply{Granted: true, Left: 3, Now: 10})
	alone(split, 9, api.Reply{})
	wantCells(t, c, 3, at(0, "a", 40), at(1, "j", 0), at(1, "k", 0, 1, 2))
	wantLevel(t, c, 1, false)
	alone(split, 15, api.Reply{})
	alone(split, 27, api.Reply{})
	alone(split, 51, api.Reply{})
	alone(split, 1, fault(api.ErrRange))
	wantLevel(t, c, 4, false)
	wantCells(t, c, 3, at(0, "a", 40), at(1, "j", 0), at(1, "k", 0, 1, 2))
	alone(release(1, "k", 2), 3, api.Reply{Granted: true, Left: 1})
	// Load D; 16 shards, found by two Loads each; three that hold cells, the Clock
	// each; of one Swap, Load, Swap.
	alone(evict, 1+32+3+3, api.Reply{Left: 1})
	wantCells(t, c, 2, at(0, "a", 40), at(1, "k", 0, 1))
}

// An Evict looks at the shards in their order, those to be where they are moving.
func TestEvictOfMoving(t *testing.T) {
	c := made(t, table(), 9)
	for _, key := range []string{"a", "b", "c", "d"} {
		wantAlone(t, c, 0, allow(0, key, 1), 6, api.Reply{Granted: true, Left: 2})
	}
	wantStart(t, c, 1, split, api.OK)
	wantSteps(t, c, 1, 2, empty)
	wantLevel(t, c, 0, true)
	wantTick(t, c, 9, 9, api.OK)
	// Load D; of the one half: Load D, Load R, Swap (frozen), Load, Swap, Load, Clock;
	// of the other one: Load D, Load R, Load, Swap, Load, Clock.
	wantAlone(t, c, 0, evict, 1+7+6, api.Reply{})
	wantTick(t, c, 1, 10, api.OK)
	wantCells(t, c, 4, at(0, "a", 10), at(0, "b", 10), at(0, "c", 10), at(0, "d", 10))
	// Of each half: Load D, Load R, Load, Clock, Swap, Load, Swap.
	wantAlone(t, c, 0, evict, 1+7+7, api.Reply{Left: 4})
	wantCells(t, c, 0)
	wantLevel(t, c, 0, true)
	// And with no cells: Load D, Load R, Load each.
	wantAlone(t, c, 0, evict, 1+3+3, api.Reply{})
	wantSteps(t, c, 1, 4, done(api.Reply{}))
	wantLevel(t, c, 1, false)
}

// An Evict that is overtaken lets the shard be.
func TestEvictThatIsOvertaken(t *testing.T) {
	c := made(t, table(), 9)
	wantAlone(t, c, 0, allow(0, "a", 1), 6, api.Reply{Granted: true, Left: 2})
	wantTick(t, c, 10, 10, api.OK)
	wantStart(t, c, 1, evict, api.OK)
	wantSteps(t, c, 1, 3, empty)
	// What was found was idle at 10, what is there is not: its Swap isn't done.
	wantAlone(t, c, 0, allow(0, "a", 1), 4, api.Reply{Granted: true, Left: 2, Now: 10})
	wantStep(t, c, 1, empty, api.OK)
	wantStep(t, c, 1, done(api.Reply{}), api.OK)
	wantCells(t, c, 1, at(0, "a", 20))

	// What was found is not idle, though something idle is put there meanwhile.
	wantStart(t, c, 1, evict, api.OK)
	wantSteps(t, c, 1, 3, empty)
	wantAlone(t, c, 0, acquire(1, "k"), 7, api.Reply{Granted: true, Left: 1, Serial: 1})
	wantAlone(t, c, 0, release(1, "k", 1), 3, api.Reply{Granted: true, Left: 2})
	wantStep(t, c, 1, done(api.Reply{}), api.OK)
	wantCells(t, c, 2, at(0, "a", 20), at(1, "k", 0))

	// The count goes down behind the Swap.
	wantStart(t, c, 1, evict, api.OK)
	wantSteps(t, c, 1, 5, empty)
	wantCells(t, c, 2, at(0, "a", 20))
	wantStep(t, c, 1, empty, api.OK)
	wantAlone(t, c, 0, allow(0, "b", 1), 6, api.Reply{Granted: true, Left: 2, Now: 10})
	wantStep(t, c, 1, empty, api.OK)
	wantCells(t, c, 3, at(0, "a", 20), at(0, "b", 20))
	wantSteps(t, c, 1, 2, done(api.Reply{Left: 1}))
	wantCells(t, c, 2, at(0, "a", 20), at(0, "b", 20))
}

// Whoever has got a serial, or has reserved, keeps it where the call begins anew.
func TestBeginAnew(t *testing.T) {
	c := made(t, table(), 1)
	wantStart(t, c, 0, acquire(1, "k"), api.OK)
	wantSteps(t, c, 0, 6, empty)
	wantCells(t, c, 1)
	// The room is used up before the cell is there.
	wantAlone(t, c, 1, allow(0, "a", 1), 4, fault(api.ErrFull))
	wantAlone(t, c, 1, split, 9, api.Reply{})
	// Its Swap isn't done; Load D, Load R, and no serial or room is asked for.
	wantSteps(t, c, 0, 4, done(api.Reply{Granted: true, Left: 1, Serial: 1}))
	wantCells(t, c, 1, at(1, "k", 0, 1))
	wantAlone(t, c, 1, acquire(1, "k"), 5, api.Reply{Granted: true, Serial: 2})
}

// A serial that was got is lost where the permits are held then; what was reserved
// is given back.
func TestTooLate(t *testing.T) {
	c := made(t, table(), 3)
	wantStart(t, c, 0, acquire(1, "k"), api.OK)
	wantSteps(t, c, 0, 6, empty)
	for serial := range int64(2) {
		steps := 7 - 2*int(serial)
		wantAlone(t, c, 1, acquire(1, "k"), steps, api.Reply{Granted: true, Left: 1 - serial, Serial: serial + 2})
	}
	wantCells(t, c, 2, at(1, "k", 0, 2, 3))
	// Swap, Load D, Load R: all are held, but it has reserved: Load, Swap the count.
	wantSteps(t, c, 0, 5, done(fault(api.ErrBusy)))
	wantCells(t, c, 1, at(1, "k", 0, 2, 3))
	wantAlone(t, c, 1, release(1, "k", 1), 2, fault(api.ErrToken))

	// An Allow that is denied at last.
	wantStart(t, c, 0, allow(0, "a", 2), api.OK)
	wantSteps(t, c, 0, 5, empty)
	wantAlone(t, c, 1, allow(0, "a", 3), 6, api.Reply{Granted: true})
	wantCells(t, c, 3, at(0, "a", 30), at(1, "k", 0, 2, 3))
	wantTick(t, c, 5, 5, api.OK)
	wantSteps(t, c, 0, 6, done(api.Reply{Wait: 15, Now: 5}))
	wantCells(t, c, 2, at(0, "a", 30), at(1, "k", 0, 2, 3))
}

// A Release that is overtaken begins anew.
func TestReleaseThatIsOvertaken(t *testing.T) {
	c := made(t, table(), 2)
	wantAlone(t, c, 0, acquire(1, "k"), 7, api.Reply{Granted: true, Left: 1, Serial: 1})
	for who := range 2 {
		wantStart(t, c, who, release(1, "k", 1), api.OK)
		wantSteps(t, c, who, 2, empty)
	}
	wantStep(t, c, 1, done(api.Reply{Granted: true, Left: 2}), api.OK)
	wantSteps(t, c, 0, 3, done(fault(api.ErrToken)))
	wantCells(t, c, 1, at(1, "k", 0))
}

// Two who count at one time: the one whose Swap isn't done Loads once more.
func TestCountersOvertaken(t *testing.T) {
	c := made(t, table(), 2)
	for who := range 2 {
		wantStart(t, c, who, acquire(1, "k"), api.OK)
		wantSteps(t, c, who, 3, empty)
	}
	wantStep(t, c, 0, empty, api.OK) // its serial is 1
	wantSteps(t, c, 1, 3, empty)     // not done, Load, its serial is 2
	wantStep(t, c, 1, empty, api.OK)
	wantStep(t, c, 0, empty, api.OK)
	wantStep(t, c, 1, empty, api.OK) // the count is 1
	wantSteps(t, c, 0, 3, empty)     // not done, Load, the count is 2
	wantCells(t, c, 2)
	wantStep(t, c, 0, done(api.Reply{Granted: true, Left: 1, Serial: 1}), api.OK)
	// Swap, Load D, Load R, Swap: it has reserved for nothing.
	wantSteps(t, c, 1, 6, done(api.Reply{Granted: true, Serial: 2}))
	wantCells(t, c, 1, at(1, "k", 0, 1, 2))
}

// Once the serials have come to their end none is given any more.
func TestNoMoreSerials(t *testing.T) {
	c := made(t, table(), 2)
	c.words.Swap(0, theSerial, 0, api.Max-1)
	wantAlone(t, c, 0, acquire(1, "k"), 7, api.Reply{Granted: true, Left: 1, Serial: api.Max})
	wantAlone(t, c, 0, acquire(1, "k"), 3, fault(api.ErrRange))
	wantAlone(t, c, 0, acquire(1, "j"), 3, fault(api.ErrRange))
	wantCells(t, c, 1, at(1, "k", 0, api.Max))
	wantAlone(t, c, 0, release(1, "k", api.Max), 3, api.Reply{Granted: true, Left: 2})
	wantAlone(t, c, 0, acquire(1, "k"), 3, fault(api.ErrRange))
}

// All permits being held is looked at ahead of the serial.
func TestBusyAheadOfSerial(t *testing.T) {
	c := made(t, []api.Policy{aSema(1)}, 2)
	wantAlone(t, c, 0, acquire(0, "k"), 7, api.Reply{Granted: true, Serial: 1})
	c.words.Swap(0, theSerial, 1, api.Max)
	wantAlone(t, c, 0, acquire(0, "k"), 2, fault(api.ErrBusy))
}

func TestClockAtItsEnd(t *testing.T) {
	c := made(t, []api.Policy{aRate(1, api.Max)}, 2)
	wantTick(t, c, api.Max-1, api.Max-1, api.OK)
	wantTick(t, c, api.Max, api.Max, api.OK)
	wantAlone(t, c, 0, allow(0, "a", 1), 3, api.Reply{Wait: api.Max, Now: api.Max})
	wantAlone(t, c, 0, allow(0, "a", 0), 3, api.Reply{Granted: true, Now: api.Max})
	wantAlone(t, c, 0, peek(0, "a"), 3, api.Reply{Now: api.Max})
	wantTick(t, c, 1, api.Max, api.OK)
}

func TestTick(t *testing.T) {
	c := made(t, nil, 1)
	var none *Core
	for _, n := range noTicks {
		wantTick(t, c, n, 0, api.ErrArg)
		wantTick(t, none, n, 0, api.ErrArg)
	}
	wantTick(t, none, 0, 0, api.ErrNone)
	wantTick(t, none, api.Max, 0, api.ErrNone)
	wantTick(t, c, 0, 0, api.OK)
	wantTick(t, c, 7, 7, api.OK)
	wantTick(t, c, 8, 15, api.OK)
	if c.Steps() != 0 {
		t.Error("a Tick is no access")
	}
}

// The errors of Start: the least of those that apply; nothing has changed then.
func TestStartErrors(t *testing.T) {
	long := strings.Repeat("k", 256)
	type row struct {
		call api.Call
		want api.Errno
	}
	rows := []row{
		{allow(0, "a", 1), api.OK},
		{allow(0, long[:255], api.Max), api.OK},
		{allow(0, "a", -1), api.ErrArg},
		{allow(0, "a", api.Max+1), api.ErrArg},
		{allow(9, long, -1), api.ErrArg},
		{allow(0, long, 1), api.ErrLong},
		{allow(9, long, 1), api.ErrLong},
		{allow(1, "a", 1), api.ErrPolicy},
		{allow(2, "a", 1), api.ErrPolicy},
		{allow(-1, "a", 1), api.ErrPolicy},
		{acquire(1, "a"), api.OK},
		{acquire(0, "a"), api.ErrPolicy},
		{acquire(1, long), api.ErrLong},
		{release(1, "a", -1), api.OK},
		{release(0, "a", 1), api.ErrPolicy},
		{release(1, long, 1), api.ErrLong},
		{peek(0, "a"), api.OK},
		{peek(1, "a"), api.OK},
		{peek(2, "a"), api.ErrPolicy},
		{peek(math.MaxInt, long), api.ErrLong},
		{evict, api.OK},
		{split, api.OK},
		{api.Call{Op: api.OpEvict, Policy: -1, Key: []byte(long), N: -1}, api.OK},
		{api.Call{Op: api.OpSplit, Policy: 99, Key: []byte(long), N: -1}, api.OK},
		{api.Call{}, api.ErrArg},
		{api.Call{Op: 7, Key: []byte(long)}, api.ErrArg},
		{api.Call{Op: 255, Policy: 9}, api.ErrArg},
	}
	var none *Core
	for _, r := range rows {
		c := made(t, table(), 2)
		for _, who := range noWorkers {
			wantStart(t, c, who, r.call, api.ErrArg)
			wantStart(t, none, who, r.call, api.ErrArg)
		}
		for _, who := range []int{0, 1, 63} {
			wantStart(t, c, who, r.call, r.want)
			wantPending(t, c, who, r.want == api.OK)
			// Of a nil one: the table is empty.
			want := book.Check(nil, r.call)
			if want == api.OK {
				want = api.ErrNone
			}
			wantStart(t, none, who, r.call, want)
		}
		// Who has a pending call.
		wantStart(t, c, 0, split, map[bool]api.Errno{true: api.ErrBusy, false: api.OK}[r.want == api.OK])
		if r.want == api.OK {
			r.want = api.ErrBusy
		}
		wantStart(t, c, 0, r.call, r.want)
		if c.Steps() != 0 {
			t.Error("a Start is no access")
		}
	}
	wantStart(t, none, 0, allow(0, "a", 1), api.ErrPolicy)
	wantStart(t, none, 0, evict, api.ErrNone)
	wantStart(t, none, 0, api.Call{}, api.ErrArg)
}

func TestStepErrors(t *testing.T) {
	c := made(t, table(), 2)
	var none *Core
	for _, who := range noWorkers {
		wantStep(t, c, who, empty, api.ErrArg)
		wantStep(t, none, who, empty, api.ErrArg)
	}
	for who := range 64 {
		wantStep(t, c, who, empty, api.ErrNone)
		wantStep(t, none, who, empty, api.ErrNone)
	}
	wantStart(t, c, 63, peek(1, "k"), api.OK)
	wantStep(t, c, 62, empty, api.ErrNone)
	wantSteps(t, c, 63, 2, done(api.Reply{Left: 2}))
	wantStep(t, c, 63, empty, api.ErrNone)
	if c.Steps() != 2 {
		t.Error("Steps =", c.Steps())
	}
}

// P17.2

func TestPending(t *testing.T) {
	c := made(t, table(), 2)
	for _, who := range append([]int{0, 1, 63}, noWorkers...) {
		wantPending(t, c, who, false)
		wantPending(t, nil, who, false)
	}
	wantStart(t, c, 1, peek(1, "k"), api.OK)
	wantPending(t, c, 1, true)
	wantPending(t, c, 0, false)
	wantStep(t, c, 1, empty, api.OK)
	wantPending(t, c, 1, true)
	wantStep(t, c, 1, done(api.Reply{Left: 2}), api.OK)
	wantPending(t, c, 1, false)
}

func TestNil(t *testing.T) {
	var none *Core
	wantCells(t, none, 0)
	wantLevel(t, none, 0, false)
	if none.Steps() != 0 {
		t.Error("Steps of nil =", none.Steps())
	}
}

// The cells stand in the order of their identities, wherever they lie.
func TestCellsInOrder(t *testing.T) {
	list := []api.Policy{aRate(10, 20), aSema(2), aRate(1, 1)}
	want := []api.Cell{
		at(0, "", 10), at(0, "\x00", 10), at(0, "a", 10), at(0, "a\x00", 10), at(0, "a\xff", 10), at(0, "b", 10),
		at(1, "", 0, 1), at(1, "\x00", 0, 2), at(1, "a", 0, 3), at(1, "\xff\xff", 0, 4),
		at(2, "", 1), at(2, "\x01", 1), at(2, strings.Repeat("\xff", 255), 1),
	}
	c := made(t, list, 13)
	for _, one := range want {
		call := allow(one.Policy, string(one.Key), 1)
		if one.Policy == 1 {
			call = acquire(1, string(one.Key))
		}
		wantStart(t, c, 0, call, api.OK)
		for c.Pending(0) {
			c.Step(0)
		}
	}
	for range 5 {
		wantCells(t, c, 13, want...)
		wantStart(t, c, 0, split, api.OK)
		for c.Pending(0) {
			c.Step(0)
			wantCells(t, c, 13, want...)
		}
	}
}

// The words of the machine are the directory's, the count, the serial, and no other.
func TestWords(t *testing.T) {
	c := made(t, table(), 2)
	wantAlone(t, c, 0, acquire(1, "k"), 7, api.Reply{Granted: true, Left: 1, Serial: 1})
	for word, want := range map[int]uint64{0: 0, 1: 2, 2: 0, cut.Words - 1: 0, theCount: 1, theSerial: 1} {
		if got, e := c.words.Word(word); got != want || e != api.OK {
			t.Errorf("the word %d is %d (%d), not %d", word, got, e, want)
		}
	}
	if _, e := c.words.Word(theSerial + 1); e != api.ErrArg {
		t.Error("there is one more")
	}
}
