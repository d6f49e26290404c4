package cut

import "spigot/api"

// Step does one access of a call, and tells what it brought, and what the call
// does next: nothing, if it has returned.
type Step[R any] func() (R, Step[R])

// goOn is what a step brings with which the call doesn't return.
func goOn[R any](next Step[R]) (R, Step[R]) {
	var none R
	return none, next
}

// way is a call's way to the shard of a sum, and what it does at the step with
// which that is found.
type way[V, R any] struct {
	shards *Shards[V]
	who    int
	sum    uint64
	found  func(Found[V]) (R, Step[R])
}

// Find is a call's way to the shard in which a key of that sum lies: its first
// step. At the step with which the shard is found the call goes on as found says.
func Find[V, R any](s *Shards[V], who int, sum uint64, found func(Found[V]) (R, Step[R])) Step[R] {
	return way[V, R]{shards: s, who: who, sum: sum, found: found}.begin
}

// begin reads D. Where the shards are moving, whoever comes by helps.
func (w way[V, R]) begin() (R, Step[R]) {
	level, moving := w.shards.ReadLevel(w.who)
	if !moving {
		return goOn(w.look(placeOf(w.sum, level)))
	}
	behind := w.help(placeOf(w.sum, level+1))
	return goOn(freeze(w.shards, w.who, placeOf(w.sum, level), behind))
}

// look reads a shard that should be there.
func (w way[V, R]) look(at place) Step[R] {
	return func() (R, Step[R]) {
		return w.take(w.shards.read(w.who, at))
	}
}

// help reads a shard of the level to which they are moving: it may be that it
// must be put there first.
func (w way[V, R]) help(at place) Step[R] {
	return func() (R, Step[R]) {
		f := w.shards.read(w.who, at)
		if !f.isThere() {
			return goOn(fill(w.shards, w.who, f, w.look(at)))
		}
		return w.take(f)
	}
}

// take: it is found, unless others have gone on meanwhile.
func (w way[V, R]) take(f Found[V]) (R, Step[R]) {
	if !f.isThere() || f.isFrozen() {
		return goOn(w.begin)
	}
	return w.found(f)
}

// freeze freezes a shard; then the call goes on with the step behind.
func freeze[V, R any](s *Shards[V], who int, at place, behind Step[R]) Step[R] {
	return func() (R, Step[R]) {
		f := s.read(who, at)
		if f.isFrozen() {
			return goOn(behind)
		}
		return goOn(func() (R, Step[R]) {
			if s.freeze(who, f) {
				return goOn(behind)
			}
			return goOn(freeze(s, who, at, behind))
		})
	}
}

// fill puts a shard where none was read, out of the one that is cut, which is
// frozen then. Where it isn't done another one has done it.
func fill[V, R any](s *Shards[V], who int, f Found[V], behind Step[R]) Step[R] {
	return func() (R, Step[R]) {
		s.Change(who, f, func() V { return s.cutOut(f.at) })
		return goOn(behind)
	}
}

// split is a call that cuts all shards in two, and how it returns.
type split[V, R any] struct {
	shards  *Shards[V]
	who     int
	returns func(api.Errno) R
}

// Split is a call that cuts all shards in two, or helps another one to do so: its
// first step. It returns OK, or ErrRange, if there are as many as there may be.
func Split[V, R any](s *Shards[V], who int, returns func(api.Errno) R) Step[R] {
	return split[V, R]{shards: s, who: who, returns: returns}.begin
}

func (c split[V, R]) begin() (R, Step[R]) {
	level, moving := c.shards.ReadLevel(c.who)
	switch {
	case moving:
		return goOn(c.cut(place{level, 0}))
	case level == api.MaxLevel:
		return c.returns(api.ErrRange), nil
	}
	return goOn(c.leave(level))
}

func (c split[V, R]) leave(level int) Step[R] {
	return func() (R, Step[R]) {
		if !c.shards.leave(c.who, level) {
			return goOn(c.begin)
		}
		return goOn(c.cut(place{level, 0}))
	}
}

// cut freezes a shard and puts its halves.
func (c split[V, R]) cut(at place) Step[R] {
	return freeze(c.shards, c.who, at, c.half(at, 0))
}

func (c split[V, R]) half(at place, n int) Step[R] {
	return func() (R, Step[R]) {
		f := c.shards.read(c.who, at.half(n))
		if !f.isThere() {
			return goOn(fill(c.shards, c.who, f, c.behind(at, n)))
		}
		return goOn(c.behind(at, n))
	}
}

// behind is what comes behind the half n of a shard.
func (c split[V, R]) behind(at place, n int) Step[R] {
	switch {
	case n == 0:
		return c.half(at, 1)
	case at.i+1 < 1<<at.level:
		return c.cut(place{at.level, at.i + 1})
	}
	return c.arrive(at.level)
}

func (c split[V, R]) arrive(level int) Step[R] {
	return func() (R, Step[R]) {
		c.shards.arrive(c.who, level)
		return c.returns(api.OK), nil
	}
}
