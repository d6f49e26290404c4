// Package cell is what a limiter knows of one identity, and what a call makes of
// it: the part of layer 16 that doesn't ask where the cells lie.
package cell

import (
	"spigot/api"
	"spigot/gcra"
	"spigot/perm"
)

// Cell is the TAT of a rate, or the serials that are held of a semaphore. The
// empty one counts for an identity that has none.
type Cell struct {
	TAT  int64
	Held []int64
}

// Idle: does it tell no more than the empty one, at a clock?
func (c Cell) Idle(now int64) bool { return c.IdleFrom() <= now }

// IdleFrom is the first clock at which it is idle, or Never. A rate holds nothing,
// and a semaphore's TAT is 0: both may be asked of each.
func (c Cell) IdleFrom() int64 {
	if len(c.Held) > 0 {
		return Never
	}
	return c.TAT
}

// Never is above all clocks.
const Never int64 = api.Max + 1

// Free: how many permits of the semaphore p are not held.
func (c Cell) Free(p api.Policy) int64 { return free(c.sema(p)) }

// Do is a call on an identity, which stands under the policy p and has the cell
// c: the reply, the cell behind it, and whether that must be put in the place of
// c. The call is in order, and neither an Evict nor a Split. (A now that is no tick,
// or a serial that is none, is ErrArg to those who look at it.)
func Do(p api.Policy, c Cell, call api.Call, now, serial int64) (api.Reply, Cell, bool) {
	switch {
	case call.Op == api.OpAllow:
		return allow(p.Limit, c, now, call.N)
	case call.Op == api.OpAcquire:
		s, fault := perm.Take(c.sema(p), serial)
		return held(s, serial, fault)
	case call.Op == api.OpRelease:
		s, fault := perm.Give(c.sema(p), call.N)
		return held(s, 0, fault)
	case p.Kind == api.KindSema:
		return api.Reply{Left: c.Free(p)}, c, false
	}
	return peek(p.Limit, c, now), c, false
}

func allow(l api.Limit, c Cell, now, n int64) (api.Reply, Cell, bool) {
	a, fault := gcra.Decide(l, c.TAT, now, n)
	if fault != api.OK {
		return api.Reply{E: fault}, Cell{}, false
	}
	r := api.Reply{Granted: a.Granted, Left: a.Left, Wait: a.Wait, Now: now}
	return r, Cell{TAT: a.TAT}, a.Granted && n > 0
}

// held: a permit was taken under the serial, or, where that is 0, given back.
func held(s perm.Sema, serial int64, fault api.Errno) (api.Reply, Cell, bool) {
	if fault != api.OK {
		return api.Reply{E: fault}, Cell{}, false
	}
	r := api.Reply{Granted: true, Left: free(s), Serial: serial}
	return r, Cell{Held: s.Held}, true
}

func peek(l api.Limit, c Cell, now int64) api.Reply {
	left, fault := gcra.Left(l, c.TAT, now)
	if fault != api.OK {
		return api.Reply{E: fault}
	}
	return api.Reply{Left: left, Wait: max(c.TAT-now, 0), Now: now}
}

func (c Cell) sema(p api.Policy) perm.Sema {
	return perm.Sema{Permits: p.Permits, Held: c.Held}
}

// free: s is in form, so that there is no fault.
func free(s perm.Sema) int64 {
	n, _ := perm.Free(s)
	return int64(n)
}
