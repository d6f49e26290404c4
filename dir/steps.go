package dir

import (
	"spigot/api"
	"spigot/cut"
	"spigot/hash"
)

// step does one access of a call, and tells what the call does next.
type step = cut.Step[Result]

// entries are those of a shard. There is no limit of them, so that they aren't
// copied for each new version: the one whose Swap is done changes them where they
// are. What is frozen nobody changes.
type entries = map[string]int64

// call is a Get, a Put or a Drop.
type call struct {
	op    byte
	key   string
	value int64
}

// first is a call's first step.
func (d *Dir) first(who int, op byte, key []byte, value int64) step {
	if op == Split {
		return cut.Split(d.shards, who, func(fault api.Errno) Result {
			return Result{Done: true, E: fault}
		})
	}
	return d.find(who, call{op: op, key: string(key), value: value})
}

// find is a call's way to its shard. There it returns, or a Swap comes next.
func (d *Dir) find(who int, c call) step {
	sum := hash.Sum([]byte(c.key))
	return cut.Find(d.shards, who, sum, func(f cut.Found[entries]) (Result, step) {
		value, there := f.Holds[c.key]
		switch {
		case c.op == Put:
			return Result{}, d.change(who, c, f, c.value)
		case !there:
			return Result{Done: true, E: api.ErrNone}, nil
		case c.op == Drop:
			return Result{}, d.change(who, c, f, value)
		}
		return Result{Done: true, N: value}, nil
	})
}

// change puts what the call makes of a shard in the place of what it had found.
func (d *Dir) change(who int, c call, f cut.Found[entries], value int64) step {
	return func() (Result, step) {
		done := d.shards.Change(who, f, func() entries { return c.change(f.Holds) })
		if !done {
			return Result{}, d.find(who, c)
		}
		return Result{Done: true, N: value}, nil
	}
}

// change: what a shard's entries are behind the call.
func (c call) change(e entries) entries {
	if c.op == Drop {
		delete(e, c.key)
	} else {
		e[c.key] = c.value
	}
	return e
}
