package core

import (
	"spigot/api"
	"spigot/cell"
	"spigot/cut"
	"spigot/hash"
)

// step does one access of a call, and tells what the call does next.
type step = cut.Step[Result]

// work is a call on an identity, and what it has got by now.
type work struct {
	core     *Core
	who      int
	op       byte
	n        int64
	policy   api.Policy
	id       string
	serial   int64 // of an Acquire; 0: it has none yet
	reserved bool  // room for a new cell
}

// change is what a call is to put into a shard, and its reply if that is done.
type change struct {
	shard cut.Found[cells]
	cell  cell.Cell
	isNew bool
	reply api.Reply
}

// first is a call's first step.
func (c *Core) first(who int, call api.Call) step {
	switch call.Op {
	case api.OpEvict:
		return sweep{core: c, who: who}.begin
	case api.OpSplit:
		return cut.Split(c.shards, who, func(fault api.Errno) Result {
			return Result{Done: true, Reply: api.Reply{E: fault}}
		})
	}
	// Check has looked at both: there is no fault.
	id, _ := hash.Ident(call.Policy, call.Key)
	return work{core: c, who: who, op: call.Op, n: call.N, policy: c.list[call.Policy], id: string(id)}.find()
}

// find is the way to the shard in which the call's cell lies.
func (w work) find() step {
	return cut.Find(w.core.shards, w.who, hash.Sum([]byte(w.id)), w.found)
}

// found: all that is to be known of the shard is taken from it in this step.
func (w work) found(f cut.Found[cells]) (Result, step) {
	before, known := f.Holds[w.id]
	ch := change{shard: f, cell: before, isNew: !known}
	switch {
	case w.policy.Kind == api.KindRate:
		return Result{}, w.readClock(ch)
	case w.op != api.OpAcquire || w.serial != 0:
		return w.decide(ch, 0)
	case before.Free(w.policy) == 0:
		return w.finish(api.Reply{E: api.ErrBusy})
	}
	return Result{}, w.getSerial(ch)
}

func (w work) readClock(ch change) step {
	return func() (Result, step) {
		now, _ := w.core.words.Clock(w.who)
		return w.decide(ch, now)
	}
}

// getSerial: it is the call's own from then on, also where the call begins anew.
func (w work) getSerial(ch change) step {
	none := func() (Result, step) { return w.finish(api.Reply{E: api.ErrRange}) }
	return w.core.serial.up(w.who, none, func(serial int64) (Result, step) {
		w.serial = serial
		return w.decide(ch, 0)
	})
}

// decide: what the call makes of the cell that was found. It returns, if that
// stays as it is.
func (w work) decide(ch change, now int64) (Result, step) {
	reply, behind, changed := cell.Do(w.policy, ch.cell, api.Call{Op: w.op, N: w.n}, now, w.serial)
	if !changed {
		return w.finish(reply)
	}
	ch.reply, ch.cell = reply, behind
	if ch.isNew && !w.reserved {
		return Result{}, w.reserve(ch)
	}
	return Result{}, w.put(ch)
}

// reserve keeps room for the new cell, ahead of putting it: so there are never more
// than may be.
func (w work) reserve(ch change) step {
	full := func() (Result, step) { return w.finish(api.Reply{E: api.ErrFull}) }
	return w.core.count.up(w.who, full, func(int64) (Result, step) {
		w.reserved = true
		return Result{}, w.put(ch)
	})
}

// put puts the cell into its shard. Where others have changed that meanwhile, the
// call begins anew, and keeps what it has got.
func (w work) put(ch change) step {
	return func() (Result, step) {
		done := w.core.shards.Change(w.who, ch.shard, func() cells {
			ch.shard.Holds[w.id] = ch.cell
			return ch.shard.Holds
		})
		if !done {
			return Result{}, w.find()
		}
		// The room that was reserved is the new cell's.
		w.reserved = w.reserved && !ch.isNew
		return w.finish(ch.reply)
	}
}

// finish: the call returns, but what it has reserved for nothing it gives back
// first.
func (w work) finish(r api.Reply) (Result, step) {
	answer := Result{Done: true, Reply: r}
	if !w.reserved {
		return answer, nil
	}
	return Result{}, w.core.count.down(w.who, 1, func(int64) (Result, step) { return answer, nil })
}
