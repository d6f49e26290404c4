package core

import (
	"spigot/api"
	"spigot/cut"
)

// sweep is an Evict on its way through the shards.
type sweep struct {
	core *Core
	who  int
	j    uint64 // the shard at hand
	end  uint64 // how many there are
	left int    // how many cells were forgotten by now
}

// begin looks how many shards there are, or are to be.
func (s sweep) begin() (Result, step) {
	level, moving := s.core.shards.ReadLevel(s.who)
	if moving {
		level++
	}
	s.end = 1 << level
	return Result{}, s.find()
}

// find is the way to the shard at hand.
func (s sweep) find() step {
	return cut.Find(s.core.shards, s.who, s.j, func(f cut.Found[cells]) (Result, step) {
		if len(f.Holds) == 0 {
			return s.next()
		}
		return Result{}, s.readClock(f, soonest(f.Holds))
	})
}

// next goes on with the next shard; behind the last one the call returns.
func (s sweep) next() (Result, step) {
	s.j++
	if s.j == s.end {
		return Result{Done: true, Reply: api.Reply{Left: int64(s.left)}}, nil
	}
	return Result{}, s.find()
}

// readClock: of the cells that were found one is idle from first on.
func (s sweep) readClock(f cut.Found[cells], first int64) step {
	return func() (Result, step) {
		now, _ := s.core.words.Clock(s.who)
		if now < first {
			return s.next()
		}
		return Result{}, s.forget(f, now)
	}
}

// forget leaves the shard without the cells that are idle. Where others have changed
// it meanwhile, it is let be.
func (s sweep) forget(f cut.Found[cells], now int64) step {
	return func() (Result, step) {
		n := 0
		done := s.core.shards.Change(s.who, f, func() cells {
			n = forget(f.Holds, now)
			return f.Holds
		})
		if !done {
			return s.next()
		}
		s.left += n
		return Result{}, s.core.count.down(s.who, int64(n), func(int64) (Result, step) { return s.next() })
	}
}
