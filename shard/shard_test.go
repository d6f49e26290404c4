package shard

import (
	"bytes"
	"math"
	"math/rand"
	"runtime"
	"slices"
	"strings"
	"testing"

	"spigot/api"
)

// outside are numbers that are no worker; noCalls are none of the four calls;
// noTicks are no ticks.
var (
	outside = []int{-1, -2, 64, 65, 4096, 1 << 32, math.MaxInt, math.MinInt}
	calls   = []byte{Get, Put, Add, Drop}
	noCalls = []byte{0, 5, 6, 128, 129, 255}
	noTicks = []int64{-1, -2, math.MinInt64, api.Max + 1, math.MaxInt64}
)

var (
	empty = Result{}
	none  = Result{Done: true, E: api.ErrNone}
	full  = Result{Done: true, E: api.ErrFull}
)

func ok(n int64) Result { return Result{Done: true, N: n} }

// made: New, which must not fail.
func made(t *testing.T) *Shard {
	t.Helper()
	s := New()
	if s == nil {
		t.Fatal("New = nil")
	}
	return s
}

func wantStart(t *testing.T, s *Shard, who int, op byte, key string, value int64, want api.Errno) {
	t.Helper()
	if got := s.Start(who, op, []byte(key), value); got != want {
		t.Errorf("Start(%d, %d, %.20q, %d) = %d, not %d", who, op, key, value, got, want)
	}
}

func wantStep(t *testing.T, s *Shard, who int, want Result, fault api.Errno) {
	t.Helper()
	if got, gotFault := s.Step(who); got != want || gotFault != fault {
		t.Errorf("Step(%d) = %v, %d, not %v, %d", who, got, gotFault, want, fault)
	}
}

// wantSteps steps a call that is pending: only with the last step it returns.
func wantSteps(t *testing.T, s *Shard, who, steps int, want Result) {
	t.Helper()
	for range steps - 1 {
		wantStep(t, s, who, empty, api.OK)
		wantPending(t, s, who, true)
	}
	wantStep(t, s, who, want, api.OK)
	wantPending(t, s, who, false)
}

// wantAlone begins a call and steps it, others standing still, till it returns.
func wantAlone(t *testing.T, s *Shard, who int, op byte, key string, value int64, steps int, want Result) {
	t.Helper()
	wantStart(t, s, who, op, key, value, api.OK)
	wantSteps(t, s, who, steps, want)
}

func wantPending(t *testing.T, s *Shard, who int, want bool) {
	t.Helper()
	if got := s.Pending(who); got != want {
		t.Errorf("Pending(%d) = %v, not %v", who, got, want)
	}
}

// wantState: the version, and its entries.
func wantState(t *testing.T, s *Shard, version int64, want ...Entry) {
	t.Helper()
	if got := s.Version(); got != version {
		t.Errorf("Version = %d, not %d", got, version)
	}
	got := s.Entries()
	if !slices.EqualFunc(got, want, func(a, b Entry) bool { return bytes.Equal(a.Key, b.Key) && a.Value == b.Value }) {
		t.Errorf("Entries = %v, not %v", got, want)
	}
}

func at(key string, value int64) Entry { return Entry{Key: []byte(key), Value: value} }

// P14.1

func TestNew(t *testing.T) {
	s := made(t)
	wantState(t, s, 1)
	for who := range 64 {
		wantPending(t, s, who, false)
		wantStep(t, s, who, empty, api.ErrNone)
	}
	wantState(t, s, 1)
	x, y := made(t), made(t)
	wantAlone(t, x, 0, Put, "a", 1, 2, ok(1))
	wantStart(t, x, 1, Get, "a", 0, api.OK)
	wantPending(t, y, 1, false)
	wantState(t, y, 1)
	wantState(t, x, 2, at("a", 1))
}

func TestExample(t *testing.T) {
	s := made(t)
	wantStart(t, s, 0, Put, "a", 5, api.OK)
	wantStart(t, s, 1, Add, "a", 2, api.OK)
	wantStep(t, s, 0, empty, api.OK)
	wantStep(t, s, 1, empty, api.OK)
	wantStep(t, s, 0, ok(5), api.OK)
	wantState(t, s, 2, at("a", 5))
	wantStep(t, s, 1, empty, api.OK)
	wantStep(t, s, 1, empty, api.OK)
	wantStep(t, s, 1, ok(7), api.OK)
	wantState(t, s, 3, at("a", 7))

	wantAlone(t, s, 2, Drop, "b", 0, 1, none)
	wantAlone(t, s, 2, Drop, "a", 0, 2, ok(7))
	wantAlone(t, s, 2, Get, "a", 0, 1, none)
	wantAlone(t, s, 2, Add, "a", api.Max, 2, ok(api.Max))
	wantAlone(t, s, 2, Add, "a", 1, 2, ok(api.Max))
	wantStart(t, s, 0, Put, "a", -1, api.ErrArg)
	wantStart(t, s, 0, Get, strings.Repeat("k", 257), 0, api.ErrLong)
	wantState(t, s, 6, at("a", api.Max))
}

func TestCallsAlone(t *testing.T) {
	s := made(t)
	wantAlone(t, s, 0, Get, "a", 9, 1, none)
	wantAlone(t, s, 0, Drop, "a", 9, 1, none)
	wantState(t, s, 1)
	wantAlone(t, s, 63, Put, "a", 0, 2, ok(0))
	wantAlone(t, s, 0, Get, "a", 9, 1, ok(0))
	wantAlone(t, s, 1, Put, "a", 9, 2, ok(9))
	// The same value once more is a new version, too.
	wantAlone(t, s, 1, Put, "a", 9, 2, ok(9))
	wantAlone(t, s, 1, Add, "a", 0, 2, ok(9))
	wantState(t, s, 5, at("a", 9))
	wantAlone(t, s, 2, Add, "a", 6, 2, ok(15))
	wantAlone(t, s, 2, Add, "b", 6, 2, ok(6))
	wantAlone(t, s, 2, Add, "c", 0, 2, ok(0))
	wantState(t, s, 8, at("a", 15), at("b", 6), at("c", 0))
	wantAlone(t, s, 3, Drop, "b", 5, 2, ok(6))
	wantAlone(t, s, 3, Drop, "b", 5, 1, none)
	wantAlone(t, s, 3, Get, "b", 5, 1, none)
	wantAlone(t, s, 3, Get, "c", 5, 1, ok(0))
	wantState(t, s, 9, at("a", 15), at("c", 0))
}

func TestValues(t *testing.T) {
	s := made(t)
	wantAlone(t, s, 0, Put, "a", api.Max, 2, ok(api.Max))
	wantAlone(t, s, 0, Add, "a", api.Max, 2, ok(api.Max))
	wantAlone(t, s, 0, Add, "a", 0, 2, ok(api.Max))
	wantAlone(t, s, 0, Put, "a", api.Max-3, 2, ok(api.Max-3))
	wantAlone(t, s, 0, Add, "a", 2, 2, ok(api.Max-1))
	wantAlone(t, s, 0, Add, "a", 1, 2, ok(api.Max))
	wantAlone(t, s, 0, Drop, "a", 0, 2, ok(api.Max))
	for _, value := range noTicks {
		wantStart(t, s, 0, Put, "a", value, api.ErrArg)
		wantStart(t, s, 0, Add, "a", value, api.ErrArg)
		// Get and Drop don't look at it.
		wantAlone(t, s, 0, Get, "a", value, 1, none)
		wantAlone(t, s, 0, Drop, "a", value, 1, none)
	}
	wantState(t, s, 8)
}

func TestKeys(t *testing.T) {
	long := strings.Repeat("\xff", 256)
	inOrder := []string{"", "\x00", "\x00\x00", "\x01", "a", "a\x00", "a\x00b", "aa", "ab", "b", "\x7f", "\x80", "\xff", "\xff\x00", long[:255], long}
	rnd := rand.New(rand.NewSource(14))
	for range 50 {
		s := made(t)
		var want []Entry
		for place, key := range inOrder {
			want = append(want, at(key, int64(place)))
		}
		for n, place := range rnd.Perm(len(inOrder)) {
			wantAlone(t, s, n, []byte{Put, Add}[rnd.Intn(2)], inOrder[place], int64(place), 2, ok(int64(place)))
		}
		wantState(t, s, 17, want...)
		for n, place := range rnd.Perm(len(inOrder)) {
			wantAlone(t, s, n, Get, inOrder[place], 0, 1, ok(int64(place)))
			wantAlone(t, s, n, Drop, inOrder[place], 0, 2, ok(int64(place)))
			wantAlone(t, s, n, Get, inOrder[place], 0, 1, none)
			want[place].Value = -1
			left := slices.DeleteFunc(slices.Clone(want), func(e Entry) bool { return e.Value < 0 })
			wantState(t, s, int64(18+n), left...)
		}
	}
	s := made(t)
	for _, length := range []int{257, 258, 4096} {
		for _, op := range calls {
			wantStart(t, s, 0, op, strings.Repeat("a", length), 0, api.ErrLong)
		}
	}
	for _, op := range calls {
		wantStart(t, s, 0, op, long, 0, api.OK)
		for s.Pending(0) {
			s.Step(0)
		}
	}
}

// A nil key is the empty one.
func TestNoKey(t *testing.T) {
	s := made(t)
	if fault := s.Start(0, Put, nil, 4); fault != api.OK {
		t.Fatal(fault)
	}
	wantSteps(t, s, 0, 2, ok(4))
	wantAlone(t, s, 0, Get, "", 0, 1, ok(4))
	wantAlone(t, s, 0, Add, "", 3, 2, ok(7))
	if fault := s.Start(0, Drop, nil, 0); fault != api.OK {
		t.Fatal(fault)
	}
	wantSteps(t, s, 0, 2, ok(7))
	wantState(t, s, 4)
}

// name is the key of a number; they lie in the order of their numbers.
func name(n int) string { return string([]byte{byte(n >> 8), byte(n)}) }

func TestWhereThereIsNoRoom(t *testing.T) {
	s := made(t)
	for n := range api.MaxCells {
		wantAlone(t, s, 0, []byte{Put, Add}[n%2], name(n), int64(n), 2, ok(int64(n)))
	}
	wantAlone(t, s, 1, Put, "new", 1, 1, full)
	wantAlone(t, s, 1, Add, "new", 1, 1, full)
	wantAlone(t, s, 1, Get, "new", 1, 1, none)
	wantAlone(t, s, 1, Drop, "new", 1, 1, none)
	wantAlone(t, s, 1, Put, name(7), 1, 2, ok(1))
	wantAlone(t, s, 1, Add, name(9), 1, 2, ok(10))
	// Who has read that there was room for one more reads once more that there is none.
	wantAlone(t, s, 1, Drop, name(5), 0, 2, ok(5))
	wantStart(t, s, 2, Put, "x", 1, api.OK)
	wantStart(t, s, 3, Add, "y", 2, api.OK)
	wantStep(t, s, 2, empty, api.OK)
	wantStep(t, s, 3, empty, api.OK)
	wantSteps(t, s, 3, 1, ok(2))
	wantSteps(t, s, 2, 2, full)
	// And the other way round: it has returned with what it read.
	wantStart(t, s, 4, Drop, name(6), 0, api.OK)
	wantStep(t, s, 4, empty, api.OK)
	wantAlone(t, s, 5, Put, "x", 1, 1, full)
	wantSteps(t, s, 4, 1, ok(6))
	wantAlone(t, s, 5, Put, "x", 1, 2, ok(1))
	wantAlone(t, s, 5, Put, "z", 1, 1, full)
	if list := s.Entries(); len(list) != api.MaxCells || s.Version() != 4097+6 {
		t.Error(len(list), s.Version())
	}
}

// The key is copied: a caller may write over it behind Start.
func TestKeyIsCopied(t *testing.T) {
	for _, op := range calls {
		s := made(t)
		wantAlone(t, s, 0, Put, "key", 5, 2, ok(5))
		key := append(make([]byte, 0, 16), "key"...)
		if fault := s.Start(0, op, key, 5); fault != api.OK {
			t.Fatal(fault)
		}
		copy(key, "zzz")
		want, steps := ok(5), 2
		switch op {
		case Get:
			steps = 1
		case Add:
			want = ok(10)
		}
		wantSteps(t, s, 0, steps, want)
		copy(key, "yyy")
		if op != Drop {
			wantAlone(t, s, 0, Get, "key", 0, 1, want)
		}
		if string(key[:16]) != "yyy"+strings.Repeat("\x00", 13) {
			t.Error("the key that was handed in has changed:", key[:16])
		}
	}
}

// A Swap asks for the number of the version, not for what it holds.
func TestSwapOfWhatCameBack(t *testing.T) {
	s := made(t)
	wantAlone(t, s, 0, Put, "a", 5, 2, ok(5))
	wantStart(t, s, 1, Add, "a", 2, api.OK)
	wantStep(t, s, 1, empty, api.OK)
	wantAlone(t, s, 0, Drop, "a", 0, 2, ok(5))
	wantAlone(t, s, 0, Put, "a", 5, 2, ok(5))
	wantStep(t, s, 1, empty, api.OK)
	wantState(t, s, 4, at("a", 5))
	wantSteps(t, s, 1, 2, ok(7))
	wantState(t, s, 5, at("a", 7))
}

// A Swap isn't done, either, where another key's entry has changed; and what was
// made for it is thrown away.
func TestSwapBehindAnotherKey(t *testing.T) {
	s := made(t)
	wantAlone(t, s, 0, Put, "a", 5, 2, ok(5))
	for who, op := range []byte{Get, Put, Add, Drop} {
		wantStart(t, s, who, op, "a", 3, api.OK)
	}
	for who := 1; who <= 3; who++ {
		wantStep(t, s, who, empty, api.OK)
	}
	wantAlone(t, s, 9, Put, "b", 1, 2, ok(1))
	for who := 1; who <= 3; who++ {
		wantStep(t, s, who, empty, api.OK)
	}
	wantState(t, s, 3, at("a", 5), at("b", 1))
	wantSteps(t, s, 2, 2, ok(8))
	wantSteps(t, s, 1, 2, ok(3))
	wantSteps(t, s, 3, 2, ok(3))
	wantSteps(t, s, 0, 1, none)
	wantState(t, s, 6, at("b", 1))
}

// A call begins anew as often as others come between, with the Load each time;
// calls that change nothing come between nobody.
func TestBeginsAnew(t *testing.T) {
	s := made(t)
	wantAlone(t, s, 0, Put, "a", 100, 2, ok(100))
	wantStart(t, s, 0, Add, "a", 5, api.OK)
	for n := range int64(10) {
		wantStep(t, s, 0, empty, api.OK)
		wantAlone(t, s, 1, Get, "a", 0, 1, ok(100+n))
		wantAlone(t, s, 1, Drop, "b", 0, 1, none)
		wantAlone(t, s, 1, Add, "a", 1, 2, ok(101+n))
		wantStep(t, s, 0, empty, api.OK)
	}
	wantAlone(t, s, 1, Drop, "a", 0, 2, ok(110))
	wantStep(t, s, 0, empty, api.OK)
	wantAlone(t, s, 1, Get, "a", 0, 1, none)
	wantSteps(t, s, 0, 1, ok(5))
	// A Drop that finds nothing any more behind its Swap.
	wantStart(t, s, 0, Drop, "a", 0, api.OK)
	wantStep(t, s, 0, empty, api.OK)
	wantAlone(t, s, 1, Drop, "a", 0, 2, ok(5))
	wantStep(t, s, 0, empty, api.OK)
	wantSteps(t, s, 0, 1, none)
	wantState(t, s, 15)
}

func TestWrongArguments(t *testing.T) {
	s := made(t)
	long := strings.Repeat("a", 257)
	wantStart(t, s, 0, Put, "a", 3, api.OK)
	wantStep(t, s, 0, empty, api.OK)
	wantStart(t, s, 1, Get, "a", 0, api.OK)
	for _, who := range outside {
		for _, op := range append(noCalls, calls...) {
			wantStart(t, s, who, op, "a", 0, api.ErrArg)
			wantStart(t, s, who, op, long, -1, api.ErrArg)
		}
		wantStep(t, s, who, empty, api.ErrArg)
		wantPending(t, s, who, false)
	}
	for _, op := range noCalls {
		for who := range 3 {
			wantStart(t, s, who, op, "a", 0, api.ErrArg)
			wantStart(t, s, who, op, long, 0, api.ErrArg)
		}
	}
	for who := range 3 {
		wantStart(t, s, who, Put, long, -1, api.ErrArg)
		wantStart(t, s, who, Add, long, api.Max+1, api.ErrArg)
		wantStart(t, s, who, Get, long, -1, api.ErrLong)
		wantStart(t, s, who, Drop, long, -1, api.ErrLong)
	}
	for _, op := range calls {
		wantStart(t, s, 0, op, "b", 0, api.ErrBusy)
		wantStart(t, s, 1, op, "b", 0, api.ErrBusy)
	}
	wantPending(t, s, 2, false)
	wantStep(t, s, 2, empty, api.ErrNone)
	wantState(t, s, 1)
	// What was refused has changed neither call.
	wantSteps(t, s, 0, 1, ok(3))
	wantSteps(t, s, 1, 1, ok(3))
	wantStep(t, s, 0, empty, api.ErrNone)
	wantStep(t, s, 1, empty, api.ErrNone)
	wantState(t, s, 2, at("a", 3))
}

// P14.2

func TestNil(t *testing.T) {
	var s *Shard
	long := strings.Repeat("a", 257)
	for _, who := range []int{0, 1, 63} {
		for _, op := range calls {
			wantStart(t, s, who, op, "a", 0, api.ErrNone)
			wantStart(t, s, who, op, long, 0, api.ErrLong)
		}
		wantStart(t, s, who, Put, "a", -1, api.ErrArg)
		wantStart(t, s, who, Add, "a", api.Max+1, api.ErrArg)
		wantStep(t, s, who, empty, api.ErrNone)
		wantPending(t, s, who, false)
		for _, op := range noCalls {
			wantStart(t, s, who, op, "a", 0, api.ErrArg)
		}
	}
	for _, who := range outside {
		wantStart(t, s, who, Get, "a", 0, api.ErrArg)
		wantStep(t, s, who, empty, api.ErrArg)
		wantPending(t, s, who, false)
	}
	wantState(t, s, 0)
}

func TestPending(t *testing.T) {
	s := made(t)
	for who := range 64 {
		wantStart(t, s, who, Add, "a", 1, api.OK)
		for other := range 64 {
			wantPending(t, s, other, other <= who)
		}
	}
	for _, who := range outside {
		wantPending(t, s, who, false)
	}
	for who := range 64 {
		wantStep(t, s, who, empty, api.OK)
		wantPending(t, s, who, true)
	}
	wantState(t, s, 1)
	wantSteps(t, s, 63, 1, ok(1))
	for who := range 63 {
		wantStep(t, s, who, empty, api.OK)
		wantPending(t, s, who, true)
	}
	for who := range 63 {
		wantState(t, s, int64(who)+2, at("a", int64(who)+1))
		wantSteps(t, s, who, 2, ok(int64(who)+2))
		for other := range 63 {
			wantPending(t, s, other, other > who)
		}
	}
	wantState(t, s, 65, at("a", 64))
}

// An answer is new memory, the keys' spare room too.
func TestEntriesShareNothing(t *testing.T) {
	s := made(t)
	want := []Entry{at("", 1), at("a", 2), at("ab", 3), at("abcdefghi", 4)}
	for _, e := range want {
		wantAlone(t, s, 0, Put, string(e.Key), e.Value, 2, ok(e.Value))
	}
	spoil := func(key []byte) {
		for n := range cap(key) {
			key[:cap(key)][n] = '#'
		}
	}
	list, other := s.Entries(), s.Entries()
	for n := range list {
		spoil(list[n].Key)
		list[n].Value = -1
		for m := range list {
			if m > n && !bytes.Equal(list[m].Key, want[m].Key) {
				t.Error("two keys of one answer share their memory:", n, m)
			}
		}
	}
	for n := range other {
		if !bytes.Equal(other[n].Key, want[n].Key) {
			t.Error("two answers share their memory:", n)
		}
	}
	spare := list[:cap(list)]
	for n := range spare {
		spoil(spare[n].Key)
		spare[n] = Entry{}
	}
	wantState(t, s, 5, want...)
	wantAlone(t, s, 0, Put, "a", 7, 2, ok(7))
	wantAlone(t, s, 0, Drop, "ab", 7, 2, ok(3))
	if string(other[2].Key) != "ab" || other[1].Value != 2 {
		t.Error("an earlier answer has changed")
	}
}

// Versions that hold no more are not kept.
func TestOldVersionsTakeNoMemory(t *testing.T) {
	s := made(t)
	for n := range 500 {
		wantAlone(t, s, 0, Put, name(n), 0, 2, ok(0))
	}
	var before, after runtime.MemStats
	runtime.GC()
	runtime.ReadMemStats(&before)
	for range 5000 {
		s.Start(1, Add, []byte(name(3)), 1)
		s.Step(1)
		s.Step(1)
	}
	runtime.GC()
	runtime.ReadMemStats(&after)
	if grown := int64(after.HeapAlloc) - int64(before.HeapAlloc); grown > 8<<20 {
		t.Error("bytes that are kept:", grown)
	}
	wantAlone(t, s, 0, Get, name(3), 0, 1, ok(5000))
}
