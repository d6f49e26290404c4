package book

import (
	"bytes"
	"math"
	"slices"
	"strings"
	"testing"

	"spigot/api"
)

var noTicks = []int64{-1, -2, math.MinInt64, api.Max + 1, math.MaxInt64}

// table is that of the chapter's examples.
func table() []api.Policy {
	return []api.Policy{aRate(10, 20), aSema(2)}
}

func aRate(t, tau int64) api.Policy {
	return api.Policy{Kind: api.KindRate, Limit: api.Limit{T: t, Tau: tau}}
}

func aSema(permits int) api.Policy {
	return api.Policy{Kind: api.KindSema, Permits: permits}
}

func allow(policy int, key string, n int64) api.Call {
	return api.Call{Op: api.OpAllow, Policy: policy, Key: []byte(key), N: n}
}

func acquire(policy int, key string) api.Call {
	return api.Call{Op: api.OpAcquire, Policy: policy, Key: []byte(key)}
}

func release(policy int, key string, n int64) api.Call {
	return api.Call{Op: api.OpRelease, Policy: policy, Key: []byte(key), N: n}
}

func peek(policy int, key string) api.Call {
	return api.Call{Op: api.OpPeek, Policy: policy, Key: []byte(key)}
}

var (
	evict = api.Call{Op: api.OpEvict}
	split = api.Call{Op: api.OpSplit}
)

// fault is a reply with nothing but an error.
func fault(e api.Errno) api.Reply { return api.Reply{E: e} }

func made(t *testing.T, list []api.Policy, cells int) *Book {
	t.Helper()
	b, e := New(list, cells)
	if b == nil || e != api.OK {
		t.Fatal("New =", b, e)
	}
	return b
}

func wantDo(t *testing.T, b *Book, c api.Call, now, serial int64, want api.Reply) {
	t.Helper()
	if got := b.Do(c, now, serial); got != want {
		t.Errorf("Do({%d %d %.20q %d}, %d, %d) = %v, not %v", c.Op, c.Policy, c.Key, c.N, now, serial, got, want)
	}
}

func wantCells(t *testing.T, b *Book, want ...api.Cell) {
	t.Helper()
	same := func(a, b api.Cell) bool {
		return a.Policy == b.Policy && bytes.Equal(a.Key, b.Key) && a.TAT == b.TAT && slices.Equal(a.Held, b.Held)
	}
	if got := b.Cells(); !slices.EqualFunc(got, want, same) {
		t.Errorf("Cells = %v, not %v", got, want)
	}
	if got := b.Len(); got != len(want) {
		t.Errorf("Len = %d, not %d", got, len(want))
	}
}

func at(policy int, key string, tat int64, held ...int64) api.Cell {
	return api.Cell{Policy: policy, Key: []byte(key), TAT: tat, Held: held}
}

// P16.1

func TestPolicies(t *testing.T) {
	of := func(n int, p api.Policy) []api.Policy { return slices.Repeat([]api.Policy{p}, n) }
	for n, c := range []struct {
		list []api.Policy
		want api.Errno
	}{
		{nil, api.OK},
		{[]api.Policy{}, api.OK},
		{table(), api.OK},
		{of(32, aSema(64)), api.OK},
		{of(33, aSema(64)), api.ErrLong},
		{of(33, api.Policy{}), api.ErrLong},
		{of(32, api.Policy{}), api.ErrForm},
		{append(of(31, aSema(1)), aSema(0)), api.ErrForm},
		{append(of(32, aSema(1)), aSema(0)), api.ErrLong},
		{of(1, aSema(1)), api.OK},
		{of(1, aSema(0)), api.ErrForm},
		{of(1, aSema(-1)), api.ErrForm},
		{of(1, aSema(65)), api.ErrForm},
		{of(1, aSema(math.MaxInt)), api.ErrForm},
		{of(1, aSema(math.MinInt)), api.ErrForm},
		{of(1, aRate(1, 0)), api.OK},
		{of(1, aRate(api.Max, api.Max)), api.OK},
		{of(1, aRate(0, 0)), api.ErrForm},
		{of(1, aRate(-1, 0)), api.ErrForm},
		{of(1, aRate(1, -1)), api.ErrForm},
		{of(1, aRate(api.Max+1, 0)), api.ErrForm},
		{of(1, aRate(1, api.Max+1)), api.ErrForm},
		// The other field is not looked at.
		{of(1, api.Policy{Kind: api.KindRate, Limit: api.Limit{T: 1}, Permits: -1}), api.OK},
		{of(1, api.Policy{Kind: api.KindRate, Permits: 1}), api.ErrForm},
		{of(1, api.Policy{Kind: api.KindSema, Limit: api.Limit{T: -1, Tau: -1}, Permits: 1}), api.OK},
		{of(1, api.Policy{Kind: api.KindSema, Limit: api.Limit{T: 1}}), api.ErrForm},
		{of(1, api.Policy{Kind: 0, Limit: api.Limit{T: 1}, Permits: 1}), api.ErrForm},
		{of(1, api.Policy{Kind: 3, Limit: api.Limit{T: 1}, Permits: 1}), api.ErrForm},
		{of(1, api.Policy{Kind: 255, Limit: api.Limit{T: 1}, Permits: 1}), api.ErrForm},
	} {
		if got := Policies(c.list); got != c.want {
			t.Error(n, got, c.want)
		}
		if b, got := New(c.list, 1); got != c.want || (b == nil) != (got != api.OK) {
			t.Error(n, b, got, c.want)
		}
		if b, got := New(c.list, 0); got != api.ErrArg || b != nil {
			t.Error(n, b, got)
		}
	}
}

func TestCheck(t *testing.T) {
	long := strings.Repeat("k", 256)
	type row struct {
		call api.Call
		want api.Errno
	}
	rows := []row{
		{allow(0, "a", 1), api.OK},
		{allow(0, "", 0), api.OK},
		{allow(0, long[:255], api.Max), api.OK},
		{allow(0, long, 1), api.ErrLong},
		{allow(1, "a", 1), api.ErrPolicy},
		{allow(2, "a", 1), api.ErrPolicy},
		{allow(-1, "a", 1), api.ErrPolicy},
		{allow(math.MinInt, "a", 1), api.ErrPolicy},
		{allow(math.MaxInt, "a", 1), api.ErrPolicy},
		{allow(-1, long, 1), api.ErrLong},
		{allow(-1, long, -1), api.ErrArg},
		{acquire(1, "a"), api.OK},
		{acquire(1, long), api.ErrLong},
		{acquire(0, "a"), api.ErrPolicy},
		{acquire(2, "a"), api.ErrPolicy},
		{acquire(0, long), api.ErrLong},
		{release(1, "a", 1), api.OK},
		{release(1, long, 1), api.ErrLong},
		{release(0, "a", 1), api.ErrPolicy},
		{release(32, "a", 1), api.ErrPolicy},
		{peek(0, "a"), api.OK},
		{peek(1, "a"), api.OK},
		{peek(2, "a"), api.ErrPolicy},
		{peek(-1, "a"), api.ErrPolicy},
		{peek(9, long), api.ErrLong},
		{evict, api.OK},
		{split, api.OK},
	}
	for _, n := range noTicks {
		rows = append(rows, row{allow(0, "a", n), api.ErrArg}, row{allow(9, long, n), api.ErrArg}, row{release(1, "a", n), api.OK})
		// N is not looked at, nor is anything else of an Evict or a Split.
		for _, c := range []api.Call{acquire(1, "a"), peek(0, "a"), peek(1, "a"), evict, split} {
			c.N = n
			rows = append(rows, row{c, api.OK})
		}
		for _, op := range []byte{api.OpEvict, api.OpSplit} {
			rows = append(rows, row{api.Call{Op: op, Policy: -1, Key: []byte(long), N: n}, api.OK})
		}
	}
	for _, op := range []byte{0, 7, 8, 128, 129, 255} {
		for _, p := range []int{0, 1, 9} {
			rows = append(rows, row{api.Call{Op: op, Policy: p, Key: []byte("a")}, api.ErrArg}, row{api.Call{Op: op, Policy: p, Key: []byte(long)}, api.ErrArg})
		}
	}
	tooLong, noForm := slices.Repeat(table(), 17), append(table(), api.Policy{})
	for _, r := range rows {
		for _, c := range []struct {
			list []api.Policy
			most api.Errno // the table's own error
		}{{table(), api.OK}, {tooLong, api.ErrLong}, {noForm, api.ErrForm}} {
			want := r.want
			if c.most != api.OK && (want == api.OK || want > c.most) {
				want = c.most
			}
			if got := Check(c.list, r.call); got != want {
				t.Errorf("Check(%d policies, {%d %d %.20q %d}) = %d, not %d", len(c.list), r.call.Op, r.call.Policy, r.call.Key, r.call.N, got, want)
			}
		}
		wantEmpty := r.want
		if r.want == api.OK && r.call.Op < api.OpEvict {
			wantEmpty = api.ErrPolicy
		}
		if got := Check(nil, r.call); got != wantEmpty {
			t.Errorf("Check(nil, %v) = %d, not %d", r.call, got, wantEmpty)
		}
	}
	// The last number of a table that is full.
	full := append(slices.Repeat([]api.Policy{aRate(1, 1)}, 31), aSema(1))
	if got := Check(full, acquire(31, "")); got != api.OK {
		t.Error(got)
	}
	if got := Check(full, allow(31, "", 1)); got != api.ErrPolicy {
		t.Error(got)
	}
	if got := Check(full, peek(32, "")); got != api.ErrPolicy {
		t.Error(got)
	}
}

// P16.2

func TestNew(t *testing.T) {
	for _, cells := range []int{0, -1, 4097, math.MaxInt, math.MinInt} {
		for _, list := range [][]api.Policy{nil, table(), slices.Repeat(table(), 17), make([]api.Policy, 1)} {
			if b, e := New(list, cells); b != nil || e != api.ErrArg {
				t.Error(cells, b, e)
			}
		}
	}
	for _, cells := range []int{1, 2, 4095, 4096} {
		wantCells(t, made(t, table(), cells))
		wantCells(t, made(t, nil, cells))
	}
	x, y := made(t, table(), 1), made(t, table(), 1)
	wantDo(t, x, allow(0, "a", 1), 0, 0, api.Reply{Granted: true, Left: 2})
	wantCells(t, y)
}

func TestExamples(t *testing.T) {
	b := made(t, table(), 2)
	wantDo(t, b, allow(0, "a", 1), 100, 0, api.Reply{Granted: true, Left: 2, Now: 100})
	wantDo(t, b, allow(0, "a", 3), 100, 0, api.Reply{Left: 2, Wait: 10, Now: 100})
	wantDo(t, b, peek(0, "a"), 100, 0, api.Reply{Left: 2, Wait: 10, Now: 100})
	wantCells(t, b, at(0, "a", 110))

	wantDo(t, b, acquire(1, "k"), 100, 5, api.Reply{Granted: true, Left: 1, Serial: 5})
	wantDo(t, b, acquire(1, "k"), 100, 5, fault(api.ErrExists))
	wantDo(t, b, acquire(1, "k"), 100, 6, api.Reply{Granted: true, Serial: 6})
	wantDo(t, b, acquire(1, "k"), 100, 7, fault(api.ErrBusy))
	wantDo(t, b, release(1, "k", 6), 100, 0, api.Reply{Granted: true, Left: 1})
	wantDo(t, b, release(1, "k", 6), 100, 0, fault(api.ErrToken))
	wantDo(t, b, release(1, "j", 5), 100, 0, fault(api.ErrToken))
	wantCells(t, b, at(0, "a", 110), at(1, "k", 0, 5))

	wantDo(t, b, allow(0, "b", 1), 100, 0, fault(api.ErrFull))
	wantDo(t, b, allow(0, "b", 0), 100, 0, api.Reply{Granted: true, Left: 3, Now: 100})
	wantDo(t, b, evict, 110, 0, api.Reply{Left: 1, Now: 110})
	wantDo(t, b, allow(0, "b", 1), 110, 0, api.Reply{Granted: true, Left: 2, Now: 110})
	wantCells(t, b, at(0, "b", 120), at(1, "k", 0, 5))

	wantDo(t, b, allow(1, "k", 1), 100, 0, fault(api.ErrPolicy))
	wantDo(t, b, acquire(0, "a"), 100, 8, fault(api.ErrPolicy))
	wantDo(t, b, allow(2, "a", 1), 100, 0, fault(api.ErrPolicy))
	wantDo(t, b, allow(-1, "a", -1), 100, 0, fault(api.ErrArg))
	wantDo(t, b, peek(9, strings.Repeat("k", 256)), 100, 0, fault(api.ErrLong))
}

func TestAllow(t *testing.T) {
	b := made(t, []api.Policy{aRate(10, 20), aRate(1, api.Max), aRate(api.Max, 0)}, 8)
	// What is denied, and a cost of 0, makes no cell.
	wantDo(t, b, allow(0, "a", 4), 100, 0, api.Reply{Left: 3, Wait: api.Max, Now: 100})
	wantDo(t, b, allow(0, "a", 0), 100, 0, api.Reply{Granted: true, Left: 3, Now: 100})
	wantCells(t, b)
	wantDo(t, b, allow(0, "a", 3), 100, 0, api.Reply{Granted: true, Now: 100})
	wantCells(t, b, at(0, "a", 130))
	wantDo(t, b, allow(0, "a", 0), 100, 0, api.Reply{Granted: true, Now: 100})
	wantDo(t, b, allow(0, "a", 1), 109, 0, api.Reply{Wait: 1, Now: 109})
	wantCells(t, b, at(0, "a", 130))
	wantDo(t, b, allow(0, "a", 1), 110, 0, api.Reply{Granted: true, Now: 110})
	wantCells(t, b, at(0, "a", 140))
	// The clock may go back.
	wantDo(t, b, allow(0, "a", 1), 0, 0, api.Reply{Wait: 120, Now: 0})
	wantDo(t, b, allow(0, "a", 1), 1000, 0, api.Reply{Granted: true, Left: 2, Now: 1000})
	wantCells(t, b, at(0, "a", 1010))
	// The ends.
	wantDo(t, b, allow(1, "", api.Max), 0, 0, api.Reply{Granted: true})
	wantDo(t, b, allow(1, "", 1), 0, 0, api.Reply{Wait: api.Max})
	wantDo(t, b, allow(2, "", 1), 0, 0, api.Reply{Granted: true})
	wantDo(t, b, allow(2, "x", 1), 1, 0, api.Reply{Wait: api.Max, Now: 1})
	wantDo(t, b, allow(0, "x", 1), api.Max, 0, api.Reply{Wait: api.Max, Now: api.Max})
	wantCells(t, b, at(0, "a", 1010), at(1, "", api.Max), at(2, "", api.Max))
}

func TestPeek(t *testing.T) {
	b := made(t, table(), 4)
	wantDo(t, b, peek(0, "a"), 7, 0, api.Reply{Left: 3, Now: 7})
	wantDo(t, b, peek(1, "a"), 7, 0, api.Reply{Left: 2})
	wantCells(t, b)
	wantDo(t, b, allow(0, "a", 3), 100, 0, api.Reply{Granted: true, Now: 100})
	wantDo(t, b, acquire(1, "a"), 100, 9, api.Reply{Granted: true, Left: 1, Serial: 9})
	wantDo(t, b, peek(0, "a"), 0, 0, api.Reply{Wait: 130})
	wantDo(t, b, peek(0, "a"), 100, 0, api.Reply{Wait: 30, Now: 100})
	wantDo(t, b, peek(0, "a"), 110, 0, api.Reply{Left: 1, Wait: 20, Now: 110})
	wantDo(t, b, peek(0, "a"), 129, 0, api.Reply{Left: 2, Wait: 1, Now: 129})
	wantDo(t, b, peek(0, "a"), 130, 0, api.Reply{Left: 3, Now: 130})
	wantDo(t, b, peek(0, "a"), 131, 0, api.Reply{Left: 3, Now: 131})
	wantDo(t, b, peek(0, "a"), api.Max, 0, api.Reply{Now: api.Max})
	wantDo(t, b, peek(1, "a"), 100, 0, api.Reply{Left: 1})
	wantDo(t, b, peek(1, "b"), 100, 0, api.Reply{Left: 2})
	wantCells(t, b, at(0, "a", 130), at(1, "a", 0, 9))
}

func TestPermits(t *testing.T) {
	b := made(t, []api.Policy{aSema(64), aSema(1)}, 4)
	for n := range int64(64) {
		// Told from the greatest on; they are held in order.
		wantDo(t, b, acquire(0, "k"), 0, api.Max-n, api.Reply{Granted: true, Left: 63 - n, Serial: api.Max - n})
	}
	wantDo(t, b, acquire(0, "k"), 0, 1, fault(api.ErrBusy))
	// Of both errors the lesser number.
	wantDo(t, b, acquire(0, "k"), 0, api.Max, fault(api.ErrExists))
	list := b.Cells()
	if len(list) != 1 || len(list[0].Held) != 64 || !slices.IsSorted(list[0].Held) || list[0].Held[63] != api.Max {
		t.Error(list)
	}
	for n := range int64(64) {
		wantDo(t, b, release(0, "k", api.Max-n), 0, 0, api.Reply{Granted: true, Left: n + 1})
		wantDo(t, b, release(0, "k", api.Max-n), 0, 0, fault(api.ErrToken))
	}
	// The cell stays, and the serial may be told once more, elsewhere too.
	wantCells(t, b, at(0, "k", 0))
	wantDo(t, b, acquire(0, "k"), 0, 7, api.Reply{Granted: true, Left: 63, Serial: 7})
	wantDo(t, b, acquire(0, "j"), 0, 7, api.Reply{Granted: true, Left: 63, Serial: 7})
	wantDo(t, b, acquire(1, "k"), 0, 7, api.Reply{Granted: true, Serial: 7})
	wantCells(t, b, at(0, "j", 0, 7), at(0, "k", 0, 7), at(1, "k", 0, 7))
	for _, n := range append([]int64{0, 6, 8, api.Max}, noTicks...) {
		wantDo(t, b, release(0, "k", n), 0, 0, fault(api.ErrToken))
	}
	wantDo(t, b, release(1, "j", 7), 0, 0, fault(api.ErrToken))
	wantDo(t, b, release(1, "k", 7), 0, 0, api.Reply{Granted: true, Left: 1})
	wantCells(t, b, at(0, "j", 0, 7), at(0, "k", 0, 7), at(1, "k", 0))
}

func TestNoRoom(t *testing.T) {
	b := made(t, table(), 2)
	wantDo(t, b, allow(0, "a", 1), 100, 0, api.Reply{Granted: true, Left: 2, Now: 100})
	wantDo(t, b, acquire(1, "a"), 100, 5, api.Reply{Granted: true, Left: 1, Serial: 5})
	wantDo(t, b, allow(0, "b", 1), 100, 0, fault(api.ErrFull))
	wantDo(t, b, acquire(1, "b"), 100, 6, fault(api.ErrFull))
	// What needs no cell, or has one, needs no room.
	wantDo(t, b, allow(0, "b", 0), 100, 0, api.Reply{Granted: true, Left: 3, Now: 100})
	wantDo(t, b, allow(0, "b", 4), 100, 0, api.Reply{Left: 3, Wait: api.Max, Now: 100})
	wantDo(t, b, peek(0, "b"), 100, 0, api.Reply{Left: 3, Now: 100})
	wantDo(t, b, release(1, "b", 5), 100, 0, fault(api.ErrToken))
	wantDo(t, b, allow(0, "a", 1), 100, 0, api.Reply{Granted: true, Left: 1, Now: 100})
	wantDo(t, b, acquire(1, "a"), 100, 6, api.Reply{Granted: true, Serial: 6})
	wantDo(t, b, release(1, "a", 5), 100, 0, api.Reply{Granted: true, Left: 1})
	wantDo(t, b, release(1, "a", 6), 100, 0, api.Reply{Granted: true, Left: 2})
	wantDo(t, b, acquire(1, "b"), 100, 7, fault(api.ErrFull))
	wantCells(t, b, at(0, "a", 120), at(1, "a", 0))
	wantDo(t, b, evict, 119, 0, api.Reply{Left: 1, Now: 119})
	wantDo(t, b, acquire(1, "b"), 100, 7, api.Reply{Granted: true, Left: 1, Serial: 7})
	wantCells(t, b, at(0, "a", 120), at(1, "b", 0, 7))
}

func TestMostCells(t *testing.T) {
	b := made(t, table(), api.MaxCells)
	key := func(n int) string { return string([]byte{byte(n >> 8), byte(n)}) }
	for n := range api.MaxCells {
		wantDo(t, b, allow(0, key(n), 1), int64(n), 0, api.Reply{Granted: true, Left: 2, Now: int64(n)})
	}
	wantDo(t, b, acquire(1, "k"), 0, 5, fault(api.ErrFull))
	if b.Len() != api.MaxCells || len(b.Cells()) != api.MaxCells {
		t.Error(b.Len())
	}
	wantDo(t, b, evict, 1000, 0, api.Reply{Left: 991, Now: 1000})
	wantDo(t, b, evict, 1000, 0, api.Reply{Now: 1000})
	for n, c := range b.Cells() {
		if string(c.Key) != key(n+991) || c.TAT != int64(n+991+10) {
			t.Fatal(n, c)
		}
	}
	wantDo(t, b, evict, api.Max, 0, api.Reply{Left: 4096 - 991, Now: api.Max})
	wantCells(t, b)
}

func TestEvict(t *testing.T) {
	b := made(t, table(), 8)
	wantDo(t, b, evict, 5, 0, api.Reply{Now: 5})
	wantDo(t, b, allow(0, "a", 1), 100, 0, api.Reply{Granted: true, Left: 2, Now: 100})
	wantDo(t, b, allow(0, "b", 2), 100, 0, api.Reply{Granted: true, Left: 1, Now: 100})
	wantDo(t, b, acquire(1, "c"), 100, 5, api.Reply{Granted: true, Left: 1, Serial: 5})
	wantDo(t, b, acquire(1, "d"), 100, 6, api.Reply{Granted: true, Left: 1, Serial: 6})
	wantDo(t, b, release(1, "d", 6), 100, 0, api.Reply{Granted: true, Left: 2})
	// Nothing of the call is looked at.
	odd := api.Call{Op: api.OpEvict, Policy: -1, Key: make([]byte, 300), N: -1}
	wantDo(t, b, odd, 109, -1, api.Reply{Left: 1, Now: 109})
	wantCells(t, b, at(0, "a", 110), at(0, "b", 120), at(1, "c", 0, 5))
	wantDo(t, b, evict, 110, 0, api.Reply{Left: 1, Now: 110})
	wantCells(t, b, at(0, "b", 120), at(1, "c", 0, 5))
	wantDo(t, b, evict, api.Max, 0, api.Reply{Left: 1, Now: api.Max})
	wantCells(t, b, at(1, "c", 0, 5))
}

func TestSplit(t *testing.T) {
	b := made(t, table(), 8)
	wantDo(t, b, allow(0, "a", 1), 100, 0, api.Reply{Granted: true, Left: 2, Now: 100})
	for range 9 {
		wantDo(t, b, split, 100, 0, api.Reply{})
	}
	wantDo(t, b, api.Call{Op: api.OpSplit, Policy: -1, Key: make([]byte, 300), N: -1}, 0, -1, api.Reply{})
	wantCells(t, b, at(0, "a", 110))
}

func TestWrongArguments(t *testing.T) {
	b := made(t, table(), 8)
	wantDo(t, b, acquire(1, "k"), 0, 5, api.Reply{Granted: true, Left: 1, Serial: 5})
	long := strings.Repeat("k", 256)
	list := []api.Call{allow(0, "a", 1), acquire(1, "k"), release(1, "k", 5), peek(0, "a"), evict, split, allow(9, long, 1), {Op: 7}}
	for _, now := range noTicks {
		for _, c := range list {
			wantDo(t, b, c, now, 6, fault(api.ErrArg))
		}
	}
	for _, serial := range append([]int64{0}, noTicks...) {
		wantDo(t, b, acquire(1, "k"), 0, serial, fault(api.ErrArg))
		wantDo(t, b, acquire(0, long), 0, serial, fault(api.ErrArg))
		// The others don't look at it.
		wantDo(t, b, peek(1, "k"), 0, serial, api.Reply{Left: 1})
		wantDo(t, b, allow(0, "a", 0), 0, serial, api.Reply{Granted: true, Left: 3})
		wantDo(t, b, release(1, "k", 6), 0, serial, fault(api.ErrToken))
	}
	wantDo(t, b, acquire(1, long), 0, 1, fault(api.ErrLong))
	wantDo(t, b, acquire(1, long[:255]), 0, 1, api.Reply{Granted: true, Left: 1, Serial: 1})
	wantDo(t, b, release(1, long[:255], 1), 0, 1, api.Reply{Granted: true, Left: 2})
	wantDo(t, b, acquire(1, ""), 0, api.Max, api.Reply{Granted: true, Left: 1, Serial: api.Max})
	for _, op := range []byte{0, 7, 255} {
		wantDo(t, b, api.Call{Op: op, Policy: 1, Key: []byte("k")}, 0, 6, fault(api.ErrArg))
	}
	wantCells(t, b, at(1, "", 0, api.Max), at(1, "k", 0, 5), at(1, long[:255], 0))
}

func TestNil(t *testing.T) {
	var b *Book
	wantCells(t, b)
	for _, c := range []struct {
		call   api.Call
		now    int64
		serial int64
		want   api.Errno
	}{
		{allow(0, "a", 1), 0, 1, api.ErrPolicy},
		{acquire(1, "a"), 0, 1, api.ErrPolicy},
		{release(1, "a", 1), 0, 1, api.ErrPolicy},
		{peek(0, "a"), 0, 1, api.ErrPolicy},
		{peek(0, strings.Repeat("k", 256)), 0, 1, api.ErrLong},
		{allow(0, "a", -1), 0, 1, api.ErrArg},
		{acquire(1, "a"), 0, 0, api.ErrArg},
		{api.Call{Op: 7}, 0, 1, api.ErrArg},
		{evict, 0, 0, api.ErrNone},
		{split, 0, 0, api.ErrNone},
		{evict, -1, 0, api.ErrArg},
		{split, api.Max + 1, 0, api.ErrArg},
	} {
		wantDo(t, b, c.call, c.now, c.serial, fault(c.want))
	}
}

func TestOrderOfCells(t *testing.T) {
	list := slices.Concat(table(), table())
	b := made(t, list, 100)
	keys := []string{"", "\x00", "\x00\x00", "a", "a\x00", "aa", "b", "\x7f", "\x80", "\xc3\x28", "\xff", "\xff\xff"}
	var want []api.Cell
	for policy := range list {
		for n, key := range keys {
			want = append(want, at(policy, key, 0))
			if policy%2 == 0 {
				want[len(want)-1].TAT = int64(n) + 10
			} else {
				want[len(want)-1].Held = []int64{int64(n) + 1}
			}
		}
	}
	for n := range want {
		c := want[(n*29+7)%len(want)]
		if c.Policy%2 == 0 {
			b.Do(allow(c.Policy, string(c.Key), 1), c.TAT-10, 0)
		} else {
			b.Do(acquire(c.Policy, string(c.Key)), 0, c.Held[0])
		}
	}
	wantCells(t, b, want...)
}

// Nothing that was handed in is kept, or changed, and an answer is new memory.
func TestMemory(t *testing.T) {
	list := append(make([]api.Policy, 0, 8), table()...)
	b := made(t, list, 8)
	list[0], list[1] = api.Policy{}, api.Policy{}
	for n, p := range list[:8] {
		if p != (api.Policy{}) {
			t.Error("the table that was handed in has changed:", n)
		}
	}
	key := append(make([]byte, 0, 8), "key"...)
	b.Do(api.Call{Op: api.OpAcquire, Policy: 1, Key: key}, 0, 5)
	b.Do(api.Call{Op: api.OpAcquire, Policy: 1, Key: key}, 0, 9)
	b.Do(api.Call{Op: api.OpAllow, Policy: 0, Key: key, N: 1}, 0, 0)
	if string(key[:8]) != "key\x00\x00\x00\x00\x00" {
		t.Error("the key that was handed in has changed:", key[:8])
	}
	copy(key, "zzz")
	want := []api.Cell{at(0, "key", 10), at(1, "key", 0, 5, 9)}
	wantCells(t, b, want...)
	one, other := b.Cells(), b.Cells()
	for n := range one {
		key, held := one[n].Key[:cap(one[n].Key)], one[n].Held[:cap(one[n].Held)]
		for i := range key {
			key[i] = '#'
		}
		for i := range held {
			held[i] = -7
		}
	}
	clear(one[:cap(one)])
	wantCells(t, b, want...)
	if string(other[0].Key) != "key" || string(other[1].Key) != "key" || !slices.Equal(other[1].Held, []int64{5, 9}) {
		t.Error("two answers share their memory:", other)
	}
	b.Do(release(1, "key", 5), 0, 0)
	if !slices.Equal(other[1].Held, []int64{5, 9}) {
		t.Error("an earlier answer has changed:", other)
	}
}
