package hist

import (
	"math"
	"slices"
	"strings"
	"testing"

	"spigot/api"
)

// table is that of chapter 16's examples.
func table() []api.Policy {
	return []api.Policy{aRate(10, 20), aSema(2)}
}

func aRate(t, tau int64) api.Policy {
	return api.Policy{Kind: api.KindRate, Limit: api.Limit{T: t, Tau: tau}}
}

func aSema(permits int) api.Policy {
	return api.Policy{Kind: api.KindSema, Permits: permits}
}

func allow(key string, n int64) api.Call {
	return api.Call{Op: api.OpAllow, Key: []byte(key), N: n}
}

func acquire(key string) api.Call {
	return api.Call{Op: api.OpAcquire, Policy: 1, Key: []byte(key)}
}

func release(key string, n int64) api.Call {
	return api.Call{Op: api.OpRelease, Policy: 1, Key: []byte(key), N: n}
}

func peek(policy int, key string) api.Call {
	return api.Call{Op: api.OpPeek, Policy: policy, Key: []byte(key)}
}

// over is a call between two times.
func over(first, last int, c api.Call, r api.Reply) Done {
	return Done{Call: c, First: first, Last: last, Reply: r}
}

// one is a call at a time of its own.
func one(at int, c api.Call, r api.Reply) Done { return over(at, at, c, r) }

func fault(e api.Errno) api.Reply { return api.Reply{E: e} }

// taken, given, granted are replies as they mostly are.
func taken(left, serial int64) api.Reply {
	return api.Reply{Granted: true, Left: left, Serial: serial}
}

func given(left int64) api.Reply { return api.Reply{Granted: true, Left: left} }

func granted(left, now int64) api.Reply { return api.Reply{Granted: true, Left: left, Now: now} }

func wantCheck(t *testing.T, list []api.Policy, calls []Done, want bool, e api.Errno) {
	t.Helper()
	before := slices.Clone(calls)
	if got, fault := Check(list, calls); got != want || fault != e {
		t.Errorf("Check of %v = %t, %d, not %t, %d", calls, got, fault, want, e)
	}
	for i, d := range before {
		if !same(d, calls[i]) {
			t.Error("what was handed in has changed:", d, calls[i])
		}
	}
	turned := slices.Clone(calls)
	slices.Reverse(turned)
	if got, fault := Check(list, turned); got != want || fault != e {
		t.Errorf("the other way round: %t, %d, not %t, %d", got, fault, want, e)
	}
}

func same(a, b Done) bool {
	return a.Who == b.Who && a.First == b.First && a.Last == b.Last && a.Reply == b.Reply &&
		a.Call.Op == b.Call.Op && a.Call.Policy == b.Call.Policy && a.Call.N == b.Call.N && string(a.Call.Key) == string(b.Call.Key)
}

func want(t *testing.T, ok bool, calls ...Done) {
	t.Helper()
	wantCheck(t, table(), calls, ok, api.OK)
}

// P18.1

func TestExamples(t *testing.T) {
	a := over(1, 2, acquire("k"), taken(1, 5))
	want(t, true, a, over(3, 4, release("k", 5), given(2)))
	want(t, false, a, over(0, 0, release("k", 5), given(2)))
	want(t, true, a, over(1, 9, release("k", 5), given(2)))
	want(t, false, over(1, 9, allow("a", 1), api.Reply{Left: 2, Wait: 10, Now: 100}))
	want(t, false, a, a)
	wantCheck(t, table(), slices.Repeat([]Done{one(0, peek(1, "k"), given(2))}, 9), false, api.ErrLong)
	wantCheck(t, table(), []Done{over(2, 1, peek(1, "k"), api.Reply{})}, false, api.ErrArg)
	want(t, true)
	wantCheck(t, nil, nil, true, api.OK)
	wantCheck(t, []api.Policy{}, []Done{}, true, api.OK)
}

// Each field of a reply, and each field of a call that is looked at, must be as it
// is.
func TestEachFieldCounts(t *testing.T) {
	base := []Done{
		one(1, allow("a", 1), granted(2, 100)),
		one(2, allow("a", 3), api.Reply{Left: 2, Wait: 10, Now: 100}),
		one(3, peek(0, "a"), api.Reply{Left: 2, Wait: 10, Now: 100}),
		one(4, allow("a", 0), granted(2, 100)),
		one(5, acquire("k"), taken(1, 5)),
		one(6, acquire("k"), taken(0, 6)),
		one(7, acquire("k"), fault(api.ErrBusy)),
		one(8, peek(1, "k"), api.Reply{}),
		one(9, release("k", 7), fault(api.ErrToken)),
		one(10, release("k", 5), given(1)),
		one(11, peek(1, "k"), api.Reply{Left: 1}),
		one(12, release("k", 5), fault(api.ErrToken)),
	}
	want(t, true, base...)
	for i := range base {
		for n, change := range []func(*Done){
			func(d *Done) { d.Reply.E += 40 },
			func(d *Done) { d.Reply.E = -1 },
			func(d *Done) { d.Reply.Granted = !d.Reply.Granted },
			func(d *Done) { d.Reply.Left++ },
			func(d *Done) { d.Reply.Left = -1 },
			func(d *Done) { d.Reply.Wait++ },
			func(d *Done) { d.Reply.Wait = api.Max },
			func(d *Done) { d.Reply.Serial++ },
			func(d *Done) { d.Reply.Serial = -1 },
			func(d *Done) { d.Reply.Serial = math.MaxInt64 },
			func(d *Done) { d.Reply.Now++ },
			func(d *Done) { d.Reply.Now = -1 },
			func(d *Done) { d.Reply.Now = math.MaxInt64 },
		} {
			calls := slices.Clone(base)
			change(&calls[i])
			// Of the cost 0, at a clock one tick later, nothing else is another one.
			want(t, i == 3 && n == 10, calls...)
		}
		// Who did it is not looked at.
		calls := slices.Clone(base)
		calls[i].Who = -99
		want(t, true, calls...)
	}
}

// Where no call goes ahead of the other one, either may have been the first; at one
// time is not ahead.
func TestAhead(t *testing.T) {
	first, second := allow("a", 1), allow("a", 2)
	for _, c := range []struct {
		a, b [2]int // the times of the one that was first, and of the other one
		want bool
	}{
		{[2]int{1, 2}, [2]int{3, 4}, true},
		{[2]int{3, 4}, [2]int{1, 2}, false},
		{[2]int{2, 4}, [2]int{1, 2}, true},
		{[2]int{2, 2}, [2]int{1, 2}, true},
		{[2]int{3, 3}, [2]int{1, 2}, false},
		{[2]int{1, 9}, [2]int{2, 3}, true},
		{[2]int{2, 3}, [2]int{1, 9}, true},
		{[2]int{-5, -4}, [2]int{-3, -2}, true},
		{[2]int{-3, -2}, [2]int{-5, -4}, false},
		{[2]int{math.MinInt, math.MinInt}, [2]int{math.MaxInt, math.MaxInt}, true},
		{[2]int{math.MaxInt, math.MaxInt}, [2]int{math.MinInt, math.MinInt}, false},
		{[2]int{math.MaxInt, math.MaxInt}, [2]int{math.MinInt, math.MaxInt}, true},
		{[2]int{0, 0}, [2]int{0, 0}, true},
	} {
		want(t, c.want, over(c.a[0], c.a[1], first, granted(2, 0)), over(c.b[0], c.b[1], second, granted(0, 0)))
	}
}

// Calls on unlike identities don't touch one another, whatever their times.
func TestIdentities(t *testing.T) {
	want(t, true,
		one(2, allow("a", 3), granted(0, 0)), one(2, allow("b", 3), granted(0, 0)), one(1, allow("", 3), granted(0, 0)),
		one(1, acquire("a"), taken(1, 5)), one(1, acquire("b"), taken(1, 5)), one(1, acquire(""), taken(1, 5)),
		one(3, peek(1, "c"), api.Reply{Left: 2}))
	want(t, false, one(1, acquire("a"), taken(1, 5)), one(2, release("b", 5), given(2)))
	want(t, false, one(1, allow("a", 3), granted(0, 0)), one(2, allow("b", 3), granted(0, 0)), one(3, allow("b", 1), granted(0, 0)))
	// One key under two policies.
	list := append(table(), aSema(2), aRate(10, 20))
	k := acquire("a")
	k.Policy = 2
	wantCheck(t, list, []Done{one(1, acquire("a"), taken(1, 5)), one(2, k, taken(1, 5))}, true, api.OK)
	wantCheck(t, list, []Done{one(1, acquire("a"), taken(1, 5)), one(2, k, taken(0, 6))}, false, api.OK)
	// Each policy has its own limit.
	r := allow("a", 3)
	r.Policy = 3
	wantCheck(t, append(table(), aSema(2), aRate(1, 9)), []Done{one(1, r, granted(7, 0)), one(1, allow("a", 3), granted(0, 0))}, true, api.OK)
}

// A busy Acquire may have had any serial that nobody names.
func TestBusy(t *testing.T) {
	busy := fault(api.ErrBusy)
	want(t, false, one(1, acquire("k"), busy))
	want(t, true, one(1, acquire("k"), taken(1, 1)), one(2, acquire("k"), taken(0, 2)), one(3, acquire("k"), busy))
	want(t, true, one(1, acquire("k"), taken(1, 2)), one(2, acquire("k"), taken(0, 1)), one(3, acquire("k"), busy), one(4, acquire("k"), busy))
	want(t, false, one(1, acquire("k"), taken(1, 1)), one(2, acquire("k"), busy))
	want(t, false, one(1, acquire("k"), taken(1, 1)), one(2, acquire("k"), fault(api.ErrExists)))
	want(t, false, one(1, acquire("k"), taken(1, 1)), one(2, acquire("k"), fault(api.ErrArg)))
	// Beside an error a serial is none's.
	want(t, false, one(1, acquire("k"), taken(1, 1)), one(2, acquire("k"), taken(0, 2)), one(3, acquire("k"), api.Reply{E: api.ErrBusy, Serial: 3}))
	want(t, false, one(1, acquire("k"), taken(1, 1)), one(2, acquire("k"), api.Reply{E: api.ErrExists, Serial: 1}))
	// Serials that Releases name.
	want(t, true, one(0, release("k", 1), fault(api.ErrToken)), one(1, acquire("k"), taken(1, 2)), one(2, acquire("k"), taken(0, 3)),
		one(3, acquire("k"), busy), one(4, release("k", 2), given(1)))
	// Granted with the serial 0: there is none.
	want(t, false, one(1, acquire("k"), taken(1, 0)))
	want(t, false, one(1, acquire("k"), taken(1, api.Max+1)))
	want(t, false, one(1, acquire("k"), taken(1, -1)))
	want(t, true, one(1, acquire("k"), taken(1, api.Max)), one(2, acquire("k"), taken(0, 1)))
	// A serial once more, behind its Release.
	want(t, true, one(1, acquire("k"), taken(1, 5)), one(2, release("k", 5), given(2)), one(3, acquire("k"), taken(1, 5)))
	want(t, false, one(1, acquire("k"), taken(1, 5)), one(1, release("k", 5), given(2)), one(1, release("k", 5), given(2)))
	want(t, true, one(1, acquire("k"), taken(1, 5)), one(1, release("k", 5), given(2)), one(1, release("k", 5), fault(api.ErrToken)))
}

// Calls that don't count may have any reply.
func TestThoseThatCount(t *testing.T) {
	odd := api.Reply{E: api.ErrFull, Granted: true, Left: -1, Wait: 3, Serial: 9, Now: -1}
	notRoom := odd
	notRoom.E = api.ErrRange
	for _, c := range []struct {
		call  api.Call
		reply api.Reply
		want  bool
	}{
		{allow("a", 1), fault(api.ErrFull), true},
		{allow("a", 1), odd, true},
		{allow("a", 1), fault(api.ErrRange), false},
		{acquire("k"), fault(api.ErrFull), true},
		{acquire("k"), odd, true},
		{acquire("k"), fault(api.ErrRange), true},
		{acquire("k"), notRoom, true},
		{release("k", 5), fault(api.ErrFull), false},
		{release("k", 5), fault(api.ErrRange), false},
		{release("k", 5), fault(api.ErrToken), true},
		{peek(0, "a"), fault(api.ErrFull), false},
		{peek(1, "k"), fault(api.ErrFull), false},
		{peek(1, "k"), fault(api.ErrRange), false},
		{api.Call{Op: api.OpEvict}, notRoom, true},
		{api.Call{Op: api.OpSplit}, notRoom, true},
	} {
		want(t, c.want, one(1, c.call, c.reply))
	}
	// They stand in nobody's way, and name no serial.
	want(t, true, one(1, allow("a", 1), granted(2, 0)), one(2, allow("a", 3), fault(api.ErrFull)), one(3, allow("a", 2), granted(0, 0)))
}

func TestErrors(t *testing.T) {
	fine, twice := peek(1, "k"), api.Reply{Left: 2}
	turned := over(2, 1, fine, twice)
	wrong := one(1, allow("a", 1), fault(api.ErrToken)) // it has no order
	bad := one(1, acquire("a"), fault(api.ErrFull))
	bad.Call.Policy = 0
	var many []Done
	for n := range api.MaxSamples {
		many = append(many, one(n, peek(1, string(rune('0'+n/8))), twice))
	}
	nine := slices.Repeat([]Done{one(1, fine, twice)}, 9)
	none := api.Call{Op: api.OpPeek, Policy: 1, Key: make([]byte, 256)}
	noForm, tooLong := append(table(), api.Policy{}), slices.Repeat(table(), 17)
	with := func(calls []Done, more ...Done) []Done { return slices.Concat(more, calls) }
	times := func(n int, d Done) []Done { return slices.Repeat([]Done{d}, n) }
	for n, c := range []struct {
		list  []api.Policy
		calls []Done
		ok    bool
		want  api.Errno
	}{
		{table(), times(1, turned), false, api.ErrArg},
		{table(), []Done{over(math.MaxInt, math.MinInt, fine, twice)}, false, api.ErrArg},
		{table(), with(many, turned), false, api.ErrArg},
		{table(), with(nine, turned), false, api.ErrArg},
		{table(), []Done{wrong, turned}, false, api.ErrArg},
		{table(), []Done{bad, turned}, false, api.ErrArg},
		{noForm, times(1, turned), false, api.ErrArg},
		{tooLong, times(1, turned), false, api.ErrArg},
		// Whatever it is that was turned.
		{table(), []Done{over(2, 1, api.Call{Op: api.OpSplit}, twice)}, false, api.ErrArg},
		{table(), []Done{over(2, 1, api.Call{}, twice)}, false, api.ErrArg},
		{table(), []Done{over(2, 1, acquire("k"), fault(api.ErrFull))}, false, api.ErrArg},

		{table(), many, true, api.OK},
		{table(), with(many, one(1, allow("a", 0), granted(3, 0))), false, api.ErrLong},
		{table(), with(many, one(1, api.Call{Op: api.OpSplit}, twice)), false, api.ErrLong},
		{table(), times(4096, one(1, api.Call{Op: api.OpSplit}, twice)), true, api.OK},
		{table(), times(4097, one(1, api.Call{Op: api.OpSplit}, twice)), false, api.ErrLong},
		{table(), times(4097, bad), false, api.ErrLong},
		{noForm, times(4097, bad), false, api.ErrLong},
		{table(), nine, false, api.ErrLong},
		{table(), nine[1:], true, api.OK},
		{table(), with(nine, wrong), false, api.ErrLong},
		{table(), with(nine, bad), false, api.ErrLong},
		{table(), with(nine[1:], one(1, acquire("k"), fault(api.ErrFull)), one(1, acquire("k"), fault(api.ErrRange))), true, api.OK},
		{table(), times(9, one(1, allow("a", 1), fault(api.ErrFull))), true, api.OK},
		{table(), times(9, one(1, allow("a", 1), fault(api.ErrRange))), false, api.ErrLong},
		{table(), times(9, one(1, release("k", 1), fault(api.ErrFull))), false, api.ErrLong},
		// Those that are refused are left out, where list is a table.
		{table(), times(9, one(1, allow("a", -1), twice)), false, api.ErrForm},
		{table(), with(nine[1:], one(1, release("k", 1), twice), one(2, api.Call{Op: api.OpAllow, Policy: 1, Key: []byte("k")}, twice)), false, api.ErrLong},
		{table(), with(nine[1:], one(2, api.Call{Op: api.OpAllow, Policy: 1, Key: []byte("k")}, twice)), false, api.ErrForm},
		{noForm, times(9, one(1, allow("a", -1), twice)), false, api.ErrLong},
		{noForm, times(9, one(1, peek(31, "a"), twice)), false, api.ErrLong},
		{noForm, times(9, one(1, peek(32, "a"), twice)), false, api.ErrForm},
		{noForm, times(9, one(1, peek(-1, "a"), twice)), false, api.ErrForm},
		{noForm, times(9, one(1, none, twice)), false, api.ErrForm},
		{noForm, times(9, one(1, allow("a", 1), fault(api.ErrFull))), false, api.ErrForm},
		{noForm, times(9, one(1, api.Call{Op: 7}, twice)), false, api.ErrForm},
		{noForm, with(nine[1:], one(2, api.Call{Op: api.OpAllow, Policy: 1, Key: []byte("k")}, twice)), false, api.ErrLong},
		{noForm, nine, false, api.ErrLong},
		{noForm, nine[1:], false, api.ErrForm},
		{noForm, nil, false, api.ErrForm},
		{tooLong, nil, false, api.ErrLong},
		{tooLong, nine, false, api.ErrLong},
		{slices.Repeat(noForm, 11), nil, false, api.ErrLong},

		{table(), times(1, bad), false, api.ErrForm},
		{table(), []Done{bad, wrong}, false, api.ErrForm},
		{table(), []Done{one(1, none, twice)}, false, api.ErrForm},
		{table(), []Done{one(1, peek(2, "a"), twice)}, false, api.ErrForm},
		{table(), []Done{one(1, allow("a", api.Max+1), twice)}, false, api.ErrForm},
		{table(), []Done{one(1, api.Call{}, twice)}, false, api.ErrForm},
		{table(), []Done{one(1, api.Call{Op: 7}, twice)}, false, api.ErrForm},
		{nil, []Done{one(1, fine, twice)}, false, api.ErrForm},
		{nil, []Done{one(1, api.Call{Op: api.OpEvict, Policy: -1}, twice)}, true, api.OK},
		{nil, nine, false, api.ErrForm},
		{table(), times(1, wrong), false, api.OK},
	} {
		if t.Failed() {
			t.Fatal("ahead of", n)
		}
		wantCheck(t, c.list, c.calls, c.ok, c.want)
	}
}

// Long keys, the ends of the clock.
func TestEnds(t *testing.T) {
	key := strings.Repeat("k", 255)
	list := []api.Policy{aRate(1, api.Max), aSema(64)}
	wantCheck(t, list, []Done{
		one(1, allow(key, api.Max), granted(0, 0)),
		one(2, allow(key, 1), api.Reply{Wait: api.Max}),
		one(3, peek(0, key), api.Reply{Now: api.Max}),
	}, true, api.OK)
	wantCheck(t, list, []Done{one(1, peek(0, key), api.Reply{Now: api.Max, Left: 0, Wait: 1})}, false, api.OK)
	wantCheck(t, list, []Done{one(1, peek(1, key), api.Reply{Left: 64})}, true, api.OK)
}
