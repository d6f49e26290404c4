package dir

import (
	"bytes"
	"math"
	"math/rand"
	"runtime"
	"slices"
	"strings"
	"testing"

	"spigot/api"
	"spigot/hash"
)

// outside are numbers that are no worker; noCalls are none of the four calls;
// noTicks are no ticks.
var (
	outside = []int{-1, -2, 64, 65, 4096, 1 << 32, math.MaxInt, math.MinInt}
	calls   = []byte{Get, Put, Drop, Split}
	noCalls = []byte{0, 5, 6, 128, 129, 255}
	noTicks = []int64{-1, -2, math.MinInt64, api.Max + 1, math.MaxInt64}
)

var (
	empty  = Result{}
	none   = Result{Done: true, E: api.ErrNone}
	beyond = Result{Done: true, E: api.ErrRange}
)

func ok(n int64) Result { return Result{Done: true, N: n} }

// made: New, which must not fail.
func made(t *testing.T) *Dir {
	t.Helper()
	d := New()
	if d == nil {
		t.Fatal("New = nil")
	}
	return d
}

func wantStart(t *testing.T, d *Dir, who int, op byte, key string, value int64, want api.Errno) {
	if got := d.Start(who, op, []byte(key), value); got != want {
		t.Helper()
		t.Errorf("Start(%d, %d, %.20q, %d) = %d, not %d", who, op, key, value, got, want)
	}
}

func wantStep(t *testing.T, d *Dir, who int, want Result, fault api.Errno) {
	if got, gotFault := d.Step(who); got != want || gotFault != fault {
		t.Helper()
		t.Errorf("Step(%d) = %v, %d, not %v, %d", who, got, gotFault, want, fault)
	}
}

// wantSteps steps a call that is pending: only with the last step it returns.
func wantSteps(t *testing.T, d *Dir, who, steps int, want Result) {
	t.Helper()
	before := d.Steps()
	for range steps - 1 {
		wantStep(t, d, who, empty, api.OK)
		wantPending(t, d, who, true)
	}
	wantStep(t, d, who, want, api.OK)
	wantPending(t, d, who, false)
	if got := d.Steps() - before; got != steps {
		t.Errorf("%d accesses, not %d", got, steps)
	}
}

// wantAlone begins a call and steps it, others standing still, till it returns.
func wantAlone(t *testing.T, d *Dir, who int, op byte, key string, value int64, steps int, want Result) {
	t.Helper()
	wantStart(t, d, who, op, key, value, api.OK)
	wantSteps(t, d, who, steps, want)
}

// leave begins a call and leaves it behind so many steps.
func leave(t *testing.T, d *Dir, who int, op byte, key string, value int64, steps int) {
	t.Helper()
	wantStart(t, d, who, op, key, value, api.OK)
	for range steps {
		wantStep(t, d, who, empty, api.OK)
	}
}

func wantPending(t *testing.T, d *Dir, who int, want bool) {
	if got := d.Pending(who); got != want {
		t.Helper()
		t.Errorf("Pending(%d) = %v, not %v", who, got, want)
	}
}

func wantLevel(t *testing.T, d *Dir, level int, moving bool) {
	if got, gotMoving := d.Level(); got != level || gotMoving != moving {
		t.Helper()
		t.Errorf("Level = %d, %v, not %d, %v", got, gotMoving, level, moving)
	}
}

func wantEntries(t *testing.T, d *Dir, want ...Entry) {
	got := d.Entries()
	if !slices.EqualFunc(got, want, func(a, b Entry) bool { return bytes.Equal(a.Key, b.Key) && a.Value == b.Value }) {
		t.Helper()
		t.Errorf("Entries = %v, not %v", got, want)
	}
}

func at(key string, value int64) Entry { return Entry{Key: []byte(key), Value: value} }

// name is the key of a number; they lie in the order of their numbers.
func name(n int) string { return string([]byte{byte(n >> 8), byte(n)}) }

// splitSteps: of a Split alone, from each level.
var splitSteps = []int{9, 15, 27, 51}

// at rest: a directory of a level, without entries.
func ofLevel(t *testing.T, level int) *Dir {
	t.Helper()
	d := made(t)
	for _, steps := range splitSteps[:level] {
		wantAlone(t, d, 0, Split, "", 0, steps, ok(0))
	}
	wantLevel(t, d, level, false)
	return d
}

// P15.1

func TestNew(t *testing.T) {
	d := made(t)
	wantLevel(t, d, 0, false)
	wantEntries(t, d)
	if d.Steps() != 0 {
		t.Error("Steps =", d.Steps())
	}
	for who := range 64 {
		wantPending(t, d, who, false)
		wantStep(t, d, who, empty, api.ErrNone)
	}
	if d.Steps() != 0 {
		t.Error("Steps =", d.Steps())
	}
	x, y := made(t), made(t)
	wantAlone(t, x, 0, Put, "a", 1, 3, ok(1))
	leave(t, x, 1, Split, "", 0, 2)
	wantPending(t, y, 1, false)
	wantLevel(t, y, 0, false)
	wantEntries(t, y)
	if x.Steps() != 5 || y.Steps() != 0 {
		t.Error(x.Steps(), y.Steps())
	}
}

func TestExamples(t *testing.T) {
	d := made(t)
	wantAlone(t, d, 0, Put, "a", 5, 3, ok(5))
	wantAlone(t, d, 0, Split, "", 0, 9, ok(0))
	wantLevel(t, d, 1, false)
	wantAlone(t, d, 0, Get, "a", 0, 2, ok(5))

	d = made(t)
	wantAlone(t, d, 0, Put, "a", 5, 3, ok(5))
	leave(t, d, 1, Split, "", 0, 2)
	wantLevel(t, d, 0, true)
	wantAlone(t, d, 0, Get, "a", 0, 6, ok(5))
	wantAlone(t, d, 0, Get, "a", 0, 3, ok(5))

	d = ofLevel(t, 4)
	wantAlone(t, d, 0, Split, "", 0, 1, beyond)
	wantLevel(t, d, 4, false)
	wantAlone(t, d, 0, Drop, "b", 0, 2, none)
	wantStart(t, d, 0, Put, "a", -1, api.ErrArg)
}

func TestCallsAlone(t *testing.T) {
	for level := range 5 {
		d := ofLevel(t, level)
		wantAlone(t, d, 0, Get, "a", 9, 2, none)
		wantAlone(t, d, 0, Drop, "a", 9, 2, none)
		wantEntries(t, d)
		wantAlone(t, d, 1, Put, "a", 9, 3, ok(9))
		wantAlone(t, d, 1, Put, "a", 0, 3, ok(0))
		wantAlone(t, d, 1, Put, "a", 8, 3, ok(8))
		wantAlone(t, d, 2, Put, "b", 7, 3, ok(7))
		wantAlone(t, d, 2, Put, "", 6, 3, ok(6))
		wantEntries(t, d, at("", 6), at("a", 8), at("b", 7))
		wantAlone(t, d, 3, Drop, "b", 5, 3, ok(7))
		wantAlone(t, d, 3, Drop, "b", 5, 2, none)
		wantAlone(t, d, 3, Get, "b", 5, 2, none)
		wantAlone(t, d, 3, Get, "a", 5, 2, ok(8))
		wantAlone(t, d, 63, Get, "", 5, 2, ok(6))
		wantEntries(t, d, at("", 6), at("a", 8))
		wantLevel(t, d, level, false)
	}
}

func TestValues(t *testing.T) {
	d := made(t)
	for _, value := range []int64{0, 1, api.Max - 1, api.Max} {
		wantAlone(t, d, 0, Put, "a", value, 3, ok(value))
		wantAlone(t, d, 0, Get, "a", 0, 2, ok(value))
	}
	wantAlone(t, d, 0, Drop, "a", 0, 3, ok(api.Max))
	for n, value := range noTicks {
		wantStart(t, d, 0, Put, "a", value, api.ErrArg)
		// The others don't look at it.
		wantAlone(t, d, 0, Get, "a", value, 2, none)
		wantAlone(t, d, 0, Drop, "a", value, 2, none)
		if n < 4 {
			wantAlone(t, d, 0, Split, "a", value, splitSteps[n], ok(0))
		}
	}
	wantEntries(t, d)
}

func TestKeys(t *testing.T) {
	long := strings.Repeat("\xff", 256)
	inOrder := []string{"", "\x00", "\x00\x00", "\x01", "a", "a\x00", "a\x00b", "aa", "ab", "b", "\x7f", "\x80", "\xc3\x28", "\xff", "\xff\x00", long[:255], long}
	rnd := rand.New(rand.NewSource(15))
	for level := range 5 {
		d := ofLevel(t, level)
		var want []Entry
		for place, key := range inOrder {
			want = append(want, at(key, int64(place)))
		}
		for n, place := range rnd.Perm(len(inOrder)) {
			wantAlone(t, d, n, Put, inOrder[place], int64(place), 3, ok(int64(place)))
		}
		wantEntries(t, d, want...)
		if level < 4 {
			wantAlone(t, d, 0, Split, "", 0, splitSteps[level], ok(0))
			wantEntries(t, d, want...)
		}
		for n, place := range rnd.Perm(len(inOrder)) {
			wantAlone(t, d, n, Get, inOrder[place], 0, 2, ok(int64(place)))
			wantAlone(t, d, n, Drop, inOrder[place], 0, 3, ok(int64(place)))
			wantAlone(t, d, n, Get, inOrder[place], 0, 2, none)
			want[place].Value = -1
			left := slices.DeleteFunc(slices.Clone(want), func(e Entry) bool { return e.Value < 0 })
			wantEntries(t, d, left...)
		}
	}
}

func TestLongKeys(t *testing.T) {
	d := made(t)
	for n, length := range []int{257, 258, 4096} {
		key := strings.Repeat("a", length)
		for _, op := range []byte{Get, Put, Drop} {
			wantStart(t, d, 0, op, key, 0, api.ErrLong)
		}
		// A Split doesn't look at it.
		wantAlone(t, d, 0, Split, key, 0, splitSteps[n], ok(0))
	}
	key := strings.Repeat("a", 256)
	wantAlone(t, d, 0, Put, key, 4, 3, ok(4))
	wantAlone(t, d, 0, Get, key, 4, 2, ok(4))
	wantAlone(t, d, 0, Drop, key, 4, 3, ok(4))
}

// A nil key is the empty one.
func TestNoKey(t *testing.T) {
	d := made(t)
	if fault := d.Start(0, Put, nil, 4); fault != api.OK {
		t.Fatal(fault)
	}
	wantSteps(t, d, 0, 3, ok(4))
	wantAlone(t, d, 0, Get, "", 0, 2, ok(4))
	if fault := d.Start(0, Split, nil, 0); fault != api.OK {
		t.Fatal(fault)
	}
	wantSteps(t, d, 0, 9, ok(0))
	wantEntries(t, d, at("", 4))
	if fault := d.Start(0, Drop, nil, 0); fault != api.OK {
		t.Fatal(fault)
	}
	wantSteps(t, d, 0, 3, ok(4))
	wantEntries(t, d)
}

// There is no limit of entries: many more than a shard of layer 14 may have.
func TestManyEntries(t *testing.T) {
	d := made(t)
	var want []Entry
	for n := range 20000 {
		wantAlone(t, d, 0, Put, name(n), int64(n), 3, ok(int64(n)))
		want = append(want, at(name(n), int64(n)))
	}
	wantEntries(t, d, want...)
	for _, steps := range splitSteps {
		wantAlone(t, d, 0, Split, "", 0, steps, ok(0))
		wantEntries(t, d, want...)
	}
	for n := range 20000 {
		wantAlone(t, d, 0, Get, name(n), 0, 2, ok(int64(n)))
	}
}

// The key is copied: a caller may write over it behind Start.
func TestKeyIsCopied(t *testing.T) {
	for _, op := range calls {
		d := made(t)
		wantAlone(t, d, 0, Put, "key", 5, 3, ok(5))
		key := append(make([]byte, 0, 16), "key"...)
		if fault := d.Start(0, op, key, 7); fault != api.OK {
			t.Fatal(fault)
		}
		copy(key, "zzz")
		switch op {
		case Get:
			wantSteps(t, d, 0, 2, ok(5))
		case Put:
			wantStep(t, d, 0, empty, api.OK)
			copy(key, "xxx")
			wantSteps(t, d, 0, 2, ok(7))
		case Drop:
			wantSteps(t, d, 0, 3, ok(5))
		case Split:
			wantSteps(t, d, 0, 9, ok(0))
		}
		copy(key, "yyy")
		want := map[byte][]Entry{Get: {at("key", 5)}, Put: {at("key", 7)}, Split: {at("key", 5)}}
		wantEntries(t, d, want[op]...)
		if string(key[:16]) != "yyy"+strings.Repeat("\x00", 13) {
			t.Error("the key that was handed in has changed:", key[:16])
		}
	}
}

// A Split that is left behind each of its steps: whoever comes by helps.
func TestSplitLeft(t *testing.T) {
	// How many steps a Get takes then, of a key of the one half and of the other.
	gets := map[string][]int{
		"a": {2, 2, 6, 6, 5, 5, 3, 3, 3},
		"b": {2, 2, 6, 6, 5, 5, 5, 5, 3},
	}
	for key, get := range gets {
		for steps := range get {
			d := made(t)
			wantAlone(t, d, 0, Put, key, 5, 3, ok(5))
			leave(t, d, 1, Split, "", 0, steps)
			wantLevel(t, d, 0, steps >= 2)
			wantEntries(t, d, at(key, 5))
			wantAlone(t, d, 0, Get, key, 0, get[steps], ok(5))
			if steps < 2 {
				continue
			}
			wantAlone(t, d, 0, Get, key, 0, 3, ok(5))
			wantAlone(t, d, 0, Put, key, 6, 4, ok(6))
			wantAlone(t, d, 0, Drop, key, 6, 4, ok(6))
			wantAlone(t, d, 0, Drop, key, 6, 3, none)
			wantLevel(t, d, 0, true)
			wantEntries(t, d)
		}
	}
}

// A Split that comes to one that was left goes on with it, and the one that was
// left changes nothing any more.
func TestSplitHelps(t *testing.T) {
	for level, alone := range splitSteps {
		for steps := range alone {
			d := ofLevel(t, level)
			wantAlone(t, d, 0, Put, "a", 5, 3, ok(5))
			wantAlone(t, d, 0, Put, "b", 6, 3, ok(6))
			leave(t, d, 1, Split, "", 0, steps)
			wantStart(t, d, 0, Split, "", 0, api.OK)
			for d.Pending(0) {
				d.Step(0)
			}
			wantLevel(t, d, level+1, false)
			wantAlone(t, d, 0, Put, "a", 7, 3, ok(7))
			wantStart(t, d, 0, Split, "", 0, api.OK)
			for d.Pending(0) {
				d.Step(0)
			}
			wantAlone(t, d, 0, Drop, "b", 7, 3, ok(6))
			for n := 0; d.Pending(1); n++ {
				if n == 128 {
					t.Fatal("no return within 128 steps")
				}
				d.Step(1)
			}
			if now, moving := d.Level(); moving || now < min(level+2, 4) {
				t.Error("level", now, moving)
			}
			wantEntries(t, d, at("a", 7))
			wantAlone(t, d, 0, Get, "a", 0, 2, ok(7))
		}
	}
}

// Two Splits that have both read the level: one moves it, the other begins anew
// and helps; none of them goes a level farther.
func TestTwoSplits(t *testing.T) {
	d := made(t)
	leave(t, d, 0, Split, "", 0, 1)
	leave(t, d, 1, Split, "", 0, 1)
	wantStep(t, d, 0, empty, api.OK)
	wantLevel(t, d, 0, true)
	// Its Swap of D isn't done; it loads D, and does all.
	wantSteps(t, d, 1, 9, ok(0))
	wantLevel(t, d, 1, false)
	// R(0, 0) is frozen, both halves are there, D has moved.
	wantSteps(t, d, 0, 4, ok(0))
	wantLevel(t, d, 1, false)

	// One that reads D when the other one has come to the end goes a level on.
	d = made(t)
	leave(t, d, 0, Split, "", 0, 1)
	wantAlone(t, d, 1, Split, "", 0, 9, ok(0))
	wantSteps(t, d, 0, 1+15, ok(0))
	wantLevel(t, d, 2, false)
}

// At the last level a Split that begins anew finds nothing to do.
func TestLastLevel(t *testing.T) {
	d := ofLevel(t, 3)
	leave(t, d, 0, Split, "", 0, 1)
	wantAlone(t, d, 1, Split, "", 0, 51, ok(0))
	wantStep(t, d, 0, empty, api.OK)
	wantSteps(t, d, 0, 1, beyond)
	for range 3 {
		wantAlone(t, d, 2, Split, "", 0, 1, beyond)
	}
	wantLevel(t, d, 4, false)
}

// A Put whose shard is frozen between its Load and its Swap begins anew.
func TestPutBehindFreeze(t *testing.T) {
	d := made(t)
	leave(t, d, 0, Put, "a", 5, 2)
	leave(t, d, 2, Drop, "a", 0, 1)
	leave(t, d, 1, Split, "", 0, 4)
	wantStep(t, d, 0, empty, api.OK)
	wantEntries(t, d)
	// D, the frozen shard, its half: Swap, Load; Swap.
	wantSteps(t, d, 0, 6, ok(5))
	wantEntries(t, d, at("a", 5))
	// Who has read D ahead of the Split finds the frozen shard, and begins anew.
	wantStep(t, d, 2, empty, api.OK)
	wantSteps(t, d, 2, 4, ok(5))
	wantEntries(t, d)
}

// A freeze whose Swap isn't done begins anew, with what was put meanwhile.
func TestFreezeBehindPut(t *testing.T) {
	d := made(t)
	leave(t, d, 0, Put, "a", 5, 2)
	leave(t, d, 1, Split, "", 0, 3)
	wantStep(t, d, 0, ok(5), api.OK)
	wantEntries(t, d, at("a", 5))
	wantSteps(t, d, 1, 1+7, ok(0))
	wantEntries(t, d, at("a", 5))
	wantLevel(t, d, 1, false)
}

// Where the half that is read is frozen, the level has gone on: anew with D.
func TestHalfIsFrozen(t *testing.T) {
	d := made(t)
	wantAlone(t, d, 0, Put, "a", 5, 3, ok(5))
	leave(t, d, 1, Split, "", 0, 2)
	leave(t, d, 2, Get, "a", 0, 2)
	leave(t, d, 3, Get, "a", 0, 4)
	leave(t, d, 4, Get, "a", 0, 4)
	for range 2 {
		wantStart(t, d, 5, Split, "", 0, api.OK)
		for d.Pending(5) {
			d.Step(5)
		}
	}
	wantLevel(t, d, 2, false)
	wantAlone(t, d, 5, Put, "a", 6, 3, ok(6))
	// Its Swap isn't done, its Load reads the frozen shard; its Load of the half
	// likewise; D and R.
	wantSteps(t, d, 2, 5, ok(6))
	wantSteps(t, d, 3, 4, ok(6))
	wantSteps(t, d, 4, 3, ok(6))
}

// A Swap asks for the number of the version, not for what it holds.
func TestSwapOfWhatCameBack(t *testing.T) {
	d := made(t)
	wantAlone(t, d, 0, Put, "a", 5, 3, ok(5))
	leave(t, d, 1, Put, "a", 2, 2)
	leave(t, d, 2, Drop, "a", 2, 2)
	wantAlone(t, d, 0, Drop, "a", 0, 3, ok(5))
	wantAlone(t, d, 0, Put, "a", 5, 3, ok(5))
	wantStep(t, d, 1, empty, api.OK)
	wantStep(t, d, 2, empty, api.OK)
	wantEntries(t, d, at("a", 5))
	wantSteps(t, d, 1, 3, ok(2))
	wantSteps(t, d, 2, 3, ok(2))
	wantEntries(t, d)
}

// A Swap isn't done, either, where another key of the shard was changed; a key of
// another shard is in nobody's way.
func TestSwapBehindAnotherKey(t *testing.T) {
	d := ofLevel(t, 4)
	keys := map[int][]string{}
	for n := range 200 {
		i, _ := hash.Shard([]byte(name(n)), 4)
		keys[i] = append(keys[i], name(n))
	}
	for i := range 16 {
		a, b, c := keys[i][0], keys[i][1], keys[(i+1)%16][2]
		leave(t, d, 0, Put, a, 1, 2)
		leave(t, d, 1, Put, c, 2, 2)
		wantAlone(t, d, 2, Put, b, 3, 3, ok(3))
		wantSteps(t, d, 1, 1, ok(2))
		wantStep(t, d, 0, empty, api.OK)
		wantSteps(t, d, 0, 3, ok(1))
	}
	if n := len(d.Entries()); n != 48 {
		t.Error(n, "entries")
	}
}

// A Drop that finds nothing any more behind its Swap.
func TestBeginsAnew(t *testing.T) {
	d := made(t)
	wantAlone(t, d, 0, Put, "a", 5, 3, ok(5))
	leave(t, d, 0, Drop, "a", 0, 2)
	wantAlone(t, d, 1, Drop, "a", 0, 3, ok(5))
	wantStep(t, d, 0, empty, api.OK)
	wantSteps(t, d, 0, 2, none)
	leave(t, d, 0, Put, "a", 5, 2)
	for n := range int64(10) {
		wantAlone(t, d, 1, Put, "b", n, 3, ok(n))
		for range 3 {
			wantStep(t, d, 0, empty, api.OK)
		}
	}
	// Who reads, or has nothing to drop, is in nobody's way.
	wantAlone(t, d, 1, Get, "b", 0, 2, ok(9))
	wantAlone(t, d, 1, Drop, "c", 0, 2, none)
	wantSteps(t, d, 0, 1, ok(5))
	wantEntries(t, d, at("a", 5), at("b", 9))
}

func TestWrongArguments(t *testing.T) {
	d := made(t)
	long := strings.Repeat("a", 257)
	leave(t, d, 0, Put, "a", 3, 2)
	leave(t, d, 1, Get, "a", 0, 1)
	leave(t, d, 2, Split, "", 0, 0)
	for _, who := range outside {
		for _, op := range append(noCalls, calls...) {
			wantStart(t, d, who, op, "a", 0, api.ErrArg)
			wantStart(t, d, who, op, long, -1, api.ErrArg)
		}
		wantStep(t, d, who, empty, api.ErrArg)
		wantPending(t, d, who, false)
	}
	for who := range 4 {
		for _, op := range noCalls {
			wantStart(t, d, who, op, "a", 0, api.ErrArg)
			wantStart(t, d, who, op, long, 0, api.ErrArg)
		}
		wantStart(t, d, who, Put, long, -1, api.ErrArg)
		wantStart(t, d, who, Put, "a", api.Max+1, api.ErrArg)
		wantStart(t, d, who, Put, long, 1, api.ErrLong)
		wantStart(t, d, who, Get, long, -1, api.ErrLong)
		wantStart(t, d, who, Drop, long, -1, api.ErrLong)
	}
	for who := range 3 {
		for _, op := range calls {
			wantStart(t, d, who, op, "b", 0, api.ErrBusy)
		}
		wantStart(t, d, who, Split, long, -1, api.ErrBusy)
	}
	wantPending(t, d, 3, false)
	wantStep(t, d, 3, empty, api.ErrNone)
	wantEntries(t, d)
	wantLevel(t, d, 0, false)
	if d.Steps() != 3 {
		t.Error("Steps =", d.Steps())
	}
	// What was refused has changed none of the calls.
	wantSteps(t, d, 0, 1, ok(3))
	wantSteps(t, d, 1, 1, ok(3))
	wantSteps(t, d, 2, 9, ok(0))
	for who := range 4 {
		wantStep(t, d, who, empty, api.ErrNone)
	}
	wantEntries(t, d, at("a", 3))
}

// P15.2

func TestNil(t *testing.T) {
	var d *Dir
	long := strings.Repeat("a", 257)
	for _, who := range []int{0, 1, 63} {
		for _, op := range calls {
			wantStart(t, d, who, op, "a", 0, api.ErrNone)
		}
		for _, op := range []byte{Get, Put, Drop} {
			wantStart(t, d, who, op, long, 0, api.ErrLong)
		}
		wantStart(t, d, who, Split, long, -1, api.ErrNone)
		wantStart(t, d, who, Put, "a", -1, api.ErrArg)
		wantStep(t, d, who, empty, api.ErrNone)
		wantPending(t, d, who, false)
		for _, op := range noCalls {
			wantStart(t, d, who, op, "a", 0, api.ErrArg)
		}
	}
	for _, who := range outside {
		wantStart(t, d, who, Get, "a", 0, api.ErrArg)
		wantStep(t, d, who, empty, api.ErrArg)
		wantPending(t, d, who, false)
	}
	wantEntries(t, d)
	wantLevel(t, d, 0, false)
	if d.Steps() != 0 {
		t.Error("Steps =", d.Steps())
	}
}

func TestPending(t *testing.T) {
	d := made(t)
	for who := range 64 {
		wantStart(t, d, who, calls[who%4], "a", 1, api.OK)
		for other := range 64 {
			wantPending(t, d, other, other <= who)
		}
	}
	for _, who := range outside {
		wantPending(t, d, who, false)
	}
	if d.Steps() != 0 {
		t.Error("Steps =", d.Steps())
	}
	for who := 63; who >= 0; who-- {
		for n := 0; d.Pending(who); n++ {
			if n == 128 {
				t.Fatal("no return within 128 steps:", who)
			}
			d.Step(who)
		}
		for other := range 64 {
			wantPending(t, d, other, other < who)
		}
	}
	wantLevel(t, d, 4, false)
}

// An answer is new memory, the keys' spare room too.
func TestEntriesShareNothing(t *testing.T) {
	d := ofLevel(t, 2)
	want := []Entry{at("", 1), at("a", 2), at("ab", 3), at("abcdefghi", 4), at("b", 5)}
	for _, e := range want {
		wantAlone(t, d, 0, Put, string(e.Key), e.Value, 3, ok(e.Value))
	}
	leave(t, d, 1, Split, "", 0, 9)
	spoil := func(key []byte) {
		for n := range cap(key) {
			key[:cap(key)][n] = '#'
		}
	}
	list, other := d.Entries(), d.Entries()
	for n := range list {
		spoil(list[n].Key)
		list[n].Value = -1
		for m := range list {
			if m > n && !bytes.Equal(list[m].Key, want[m].Key) {
				t.Error("two keys of one answer share their memory:", n, m)
			}
		}
	}
	for n := range other {
		if !bytes.Equal(other[n].Key, want[n].Key) {
			t.Error("two answers share their memory:", n)
		}
	}
	spare := list[:cap(list)]
	for n := range spare {
		spoil(spare[n].Key)
		spare[n] = Entry{}
	}
	wantEntries(t, d, want...)
	wantAlone(t, d, 0, Put, "a", 7, 4, ok(7))
	if string(other[1].Key) != "a" || other[1].Value != 2 {
		t.Error("an earlier answer has changed")
	}
}

// What was cut, and what was dropped, is not kept.
func TestOldShardsTakeNoMemory(t *testing.T) {
	var before, after runtime.MemStats
	runtime.GC()
	runtime.ReadMemStats(&before)
	var list []*Dir
	for range 4 {
		d := made(t)
		for n := range 8000 {
			wantAlone(t, d, 0, Put, name(n)+strings.Repeat("x", 250), 1, 3, ok(1))
		}
		wantAlone(t, d, 0, Split, "", 0, 9, ok(0))
		for n := range 8000 {
			wantAlone(t, d, 0, Drop, name(n)+strings.Repeat("x", 250), 1, 3, ok(1))
		}
		wantEntries(t, d)
		list = append(list, d)
	}
	runtime.GC()
	runtime.ReadMemStats(&after)
	if grown := int64(after.HeapAlloc) - int64(before.HeapAlloc); grown > 6<<20 {
		t.Error("bytes that are kept:", grown)
	}
	runtime.KeepAlive(list)
}
