package cell

import (
	"slices"
	"testing"

	"spigot/api"
)

var (
	aRate = api.Policy{Kind: api.KindRate, Limit: api.Limit{T: 10, Tau: 20}}
	aSema = api.Policy{Kind: api.KindSema, Permits: 2}
)

func TestIdle(t *testing.T) {
	for _, c := range []struct {
		cell Cell
		now  int64
		want bool
	}{
		{Cell{}, 0, true},
		{Cell{TAT: 1}, 0, false},
		{Cell{TAT: 100}, 99, false},
		{Cell{TAT: 100}, 100, true},
		{Cell{TAT: api.Max}, api.Max, true},
		{Cell{Held: []int64{1}}, api.Max, false},
		{Cell{Held: []int64{}}, 0, true},
	} {
		if got := c.cell.Idle(c.now); got != c.want {
			t.Error(c, got)
		}
	}
}

func TestDo(t *testing.T) {
	for _, c := range []struct {
		policy  api.Policy
		cell    Cell
		call    api.Call
		reply   api.Reply
		behind  Cell
		changed bool
	}{
		{aRate, Cell{}, api.Call{Op: api.OpAllow, N: 1}, api.Reply{Granted: true, Left: 2, Now: 100}, Cell{TAT: 110}, true},
		{aRate, Cell{TAT: 110}, api.Call{Op: api.OpAllow, N: 3}, api.Reply{Left: 2, Wait: 10, Now: 100}, Cell{TAT: 110}, false},
		{aRate, Cell{TAT: 130}, api.Call{Op: api.OpAllow}, api.Reply{Granted: true, Now: 100}, Cell{TAT: 130}, false},
		{aRate, Cell{TAT: 110}, api.Call{Op: api.OpPeek}, api.Reply{Left: 2, Wait: 10, Now: 100}, Cell{TAT: 110}, false},
		{aRate, Cell{TAT: 90}, api.Call{Op: api.OpPeek, N: -1}, api.Reply{Left: 3, Now: 100}, Cell{TAT: 90}, false},
		{aSema, Cell{Held: []int64{3}}, api.Call{Op: api.OpPeek}, api.Reply{Left: 1}, Cell{Held: []int64{3}}, false},
		{aSema, Cell{}, api.Call{Op: api.OpAcquire}, api.Reply{Granted: true, Left: 1, Serial: 5}, Cell{Held: []int64{5}}, true},
		{aSema, Cell{Held: []int64{9}}, api.Call{Op: api.OpAcquire}, api.Reply{Granted: true, Serial: 5}, Cell{Held: []int64{5, 9}}, true},
		{aSema, Cell{Held: []int64{5}}, api.Call{Op: api.OpAcquire}, api.Reply{E: api.ErrExists}, Cell{}, false},
		{aSema, Cell{Held: []int64{5, 9}}, api.Call{Op: api.OpAcquire}, api.Reply{E: api.ErrExists}, Cell{}, false},
		{aSema, Cell{Held: []int64{6, 9}}, api.Call{Op: api.OpAcquire}, api.Reply{E: api.ErrBusy}, Cell{}, false},
		{aSema, Cell{Held: []int64{6, 9}}, api.Call{Op: api.OpRelease, N: 9}, api.Reply{Granted: true, Left: 1}, Cell{Held: []int64{6}}, true},
		{aSema, Cell{Held: []int64{6}}, api.Call{Op: api.OpRelease, N: 6}, api.Reply{Granted: true, Left: 2}, Cell{}, true},
		{aSema, Cell{Held: []int64{6}}, api.Call{Op: api.OpRelease, N: 5}, api.Reply{E: api.ErrToken}, Cell{}, false},
	} {
		before := slices.Clone(c.cell.Held)
		reply, behind, changed := Do(c.policy, c.cell, c.call, 100, 5)
		if reply != c.reply || changed != c.changed {
			t.Error(c, reply, changed)
		}
		if changed && (behind.TAT != c.behind.TAT || !slices.Equal(behind.Held, c.behind.Held)) {
			t.Error(c, behind)
		}
		if !slices.Equal(before, c.cell.Held) {
			t.Error("the cell that was handed in has changed:", c)
		}
	}
}
