package cell

import (
	"slices"
	"testing"

	"spigot/api"
)

var (
	aRate = api.Policy{Kind: api.KindRate, Limit: api.Limit{T: 10, Tau: 20}}
	aSema = api.Policy{Kind: api.KindSema, Permits: 2}
)

func TestIdle(t *testing.T) {
	for _, c := range []struct {
		cell Cell
		now  int64
		want bool
	}{
		{Cell{}, 0, true},
		{Cell{TAT: 1}, 0, false},
		{Cell{TAT: 100}, 99, false},
		{Cell{TAT: 100}, 100, true},
		{Cell{TAT: api.Max}, api.Max, true},
		{Cell{Held: []int64{1}}, api.Max, false},
		{Cell{Held: []int64{}}, 0, true},
	} {
		if got := c.cell.Idle(c.now); got != c.want {
			t.Error(c, got)
		}
		if got := c.cell.IdleFrom(); got <= c.now != c.want {
			t.Error(c, got)
		}
	}
}

func TestIdleFrom(t *testing.T) {
	for _, c := range []struct {
		cell Cell
		want int64
	}{
		{Cell{}, 0},
		{Cell{TAT: 7}, 7},
		{Cell{TAT: api.Max}, api.Max},
		{Cell{Held: []int64{1}}, Never},
	} {
		if got := c.cell.IdleFrom(); got != c.want {
			t.Error(c, got)
		}
	}
	if Never <= api.Max {
		t.Error("there is such a clock")
	}
}

func TestFree(t *testing.T) {
	for _, c := range []struct {
		permits int
		held    []int64
		want    int64
	}{{2, nil, 2}, {2, []int64{9}, 1}, {2, []int64{3, 9}, 0}, {64, []int64{3, 9}, 62}, {1, []int64{3}, 0}} {
		if got := (Cell{Held: c.held}).Free(api.Policy{Kind: api.KindSema, Permits: c.permits}); got != c.want {
			t.Error(c, got)
		}
	}
}

// Where now or the serial is none, that is what is answered.
func TestDoOfNoNumber(t *testing.T) {
	for _, n := range []int64{-1, api.Max + 1} {
		for _, call := range []api.Call{{Op: api.OpAllow, N: 1}, {Op: api.OpAllow}, {Op: api.OpPeek}} {
			if r, _, changed := Do(aRate, Cell{}, call, n, 5); r != (api.Reply{E: api.ErrArg}) || changed {
				t.Error(n, call, r, changed)
			}
		}
		if r, _, changed := Do(aSema, Cell{}, api.Call{Op: api.OpAcquire}, 0, n); r != (api.Reply{E: api.ErrArg}) || changed {
			t.Error(n, r, changed)
		}
	}
}

func TestDo(t *testing.T) {
	for _, c := range []struct {
		policy  api.Policy
		cell    Cell
		call    api.Call
		reply   api.Reply
		behind  Cell
		changed bool
	}{
		{aRate, Cell{}, api.Call{Op: api.OpAllow, N: 1}, api.Reply{Granted: true, Left: 2, Now: 100}, Cell{TAT: 110}, true},
		{aRate, Cell{TAT: 110}, api.Call{Op: api.OpAllow, N: 3}, api.Reply{Left: 2, Wait: 10, Now: 100}, Cell{TAT: 110}, false},
		{aRate, Cell{TAT: 130}, api.Call{Op: api.OpAllow}, api.Reply{Granted: true, Now: 100}, Cell{TAT: 130}, false},
		{aRate, Cell{TAT: 110}, api.Call{Op: api.OpPeek}, api.Reply{Left: 2, Wait: 10, Now: 100}, Cell{TAT: 110}, false},
		{aRate, Cell{TAT: 90}, api.Call{Op: api.OpPeek, N: -1}, api.Reply{Left: 3, Now: 100}, Cell{TAT: 90}, false},
		{aSema, Cell{Held: []int64{3}}, api.Call{Op: api.OpPeek}, api.Reply{Left: 1}, Cell{Held: []int64{3}}, false},
		{aSema, Cell{}, api.Call{Op: api.OpAcquire}, api.Reply{Granted: true, Left: 1, Serial: 5}, Cell{Held: []int64{5}}, true},
		{aSema, Cell{Held: []int64{9}}, api.Call{Op: api.OpAcquire}, api.Reply{Granted: true, Serial: 5}, Cell{Held: []int64{5, 9}}, true},
		{aSema, Cell{Held: []int64{5}}, api.Call{Op: api.OpAcquire}, api.Reply{E: api.ErrExists}, Cell{}, false},
		{aSema, Cell{Held: []int64{5, 9}}, api.Call{Op: api.OpAcquire}, api.Reply{E: api.ErrExists}, Cell{}, false},
		{aSema, Cell{Held: []int64{6, 9}}, api.Call{Op: api.OpAcquire}, api.Reply{E: api.ErrBusy}, Cell{}, false},
		{aSema, Cell{Held: []int64{6, 9}}, api.Call{Op: api.OpRelease, N: 9}, api.Reply{Granted: true, Left: 1}, Cell{Held: []int64{6}}, true},
		{aSema, Cell{Held: []int64{6}}, api.Call{Op: api.OpRelease, N: 6}, api.Reply{Granted: true, Left: 2}, Cell{}, true},
		{aSema, Cell{Held: []int64{6}}, api.Call{Op: api.OpRelease, N: 5}, api.Reply{E: api.ErrToken}, Cell{}, false},
	} {
		before := slices.Clone(c.cell.Held)
		reply, behind, changed := Do(c.policy, c.cell, c.call, 100, 5)
		if reply != c.reply || changed != c.changed {
			t.Error(c, reply, changed)
		}
		if changed && (behind.TAT != c.behind.TAT || !slices.Equal(behind.Held, c.behind.Held)) {
			t.Error(c, behind)
		}
		if !slices.Equal(before, c.cell.Held) {
			t.Error("the cell that was handed in has changed:", c)
		}
	}
}
