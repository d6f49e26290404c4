package epoch

import (
	"slices"

	"spigot/api"
)

// step does one access of a call, and tells what the call does next: nothing, if
// it has returned.
type step func() (Result, step)

// done is how a call returns well.
func done(n int64) (Result, step) { return Result{Done: true, N: n}, nil }

// goOn is what a step brings with which the call doesn't return.
func goOn(next step) (Result, step) { return Result{}, next }

// first is a call's first step.
func (x *Epochs) first(who int, op byte, thing int) step {
	switch op {
	case Pin:
		return x.pin(who)
	case Unpin:
		return x.unpin(who)
	case Retire:
		return x.retire(who, thing)
	case Advance:
		return x.advance(who)
	}
	return x.collect(who)
}

func (x *Epochs) pin(who int) step {
	return func() (Result, step) {
		return goOn(x.mark(who, 0, x.load(who, theEpoch)))
	}
}

// mark tells the epoch that was read in the worker's own word. Nobody else
// changes that word, so the Swap is always done.
func (x *Epochs) mark(who int, old, epoch uint64) step {
	return func() (Result, step) {
		x.swap(who, wordOf(who), old, epoch+1)
		return goOn(x.confirm(who, epoch))
	}
}

// confirm looks whether the epoch still is the one that was marked: one who has
// moved it on meanwhile may not have seen the mark.
func (x *Epochs) confirm(who int, epoch uint64) step {
	return func() (Result, step) {
		now := x.load(who, theEpoch)
		if now != epoch {
			return goOn(x.mark(who, epoch+1, now))
		}
		x.workers[who].pin = epoch + 1
		return done(int64(epoch))
	}
}

func (x *Epochs) unpin(who int) step {
	return func() (Result, step) {
		x.swap(who, wordOf(who), x.workers[who].pin, 0)
		x.workers[who].pin = 0
		return done(0)
	}
}

func (x *Epochs) retire(who, thing int) step {
	return func() (Result, step) {
		epoch := int64(x.load(who, theEpoch))
		w := &x.workers[who]
		w.given = append(w.given, given{thing: thing, epoch: epoch})
		return done(epoch)
	}
}

func (x *Epochs) advance(who int) step {
	return func() (Result, step) {
		return goOn(x.look(who, 0, x.load(who, theEpoch)))
	}
}

// look asks whether the worker i is pinned in another epoch, and then the next
// one; behind the last of them the epoch may move.
func (x *Epochs) look(who, i int, epoch uint64) step {
	return func() (Result, step) {
		pin := x.load(who, wordOf(i))
		if pin != 0 && pin != epoch+1 {
			return Result{Done: true, E: api.ErrBusy}, nil
		}
		if i+1 < len(x.workers) {
			return goOn(x.look(who, i+1, epoch))
		}
		return goOn(x.move(who, epoch))
	}
}

func (x *Epochs) move(who int, epoch uint64) step {
	return func() (Result, step) {
		if !x.swap(who, theEpoch, epoch, epoch+1) {
			return done(0)
		}
		return done(int64(epoch + 1))
	}
}

func (x *Epochs) collect(who int) step {
	return func() (Result, step) {
		last := int64(x.load(who, theEpoch)) - 2
		w := &x.workers[who]
		// The epoch never goes back, so what is old stands ahead of what is not.
		n := 0
		for n < len(w.given) && w.given[n].epoch <= last {
			n++
		}
		r := Result{Done: true, N: int64(n), Things: things(w.given[:n])}
		w.given = slices.Delete(w.given, 0, n)
		return r, nil
	}
}

// load reads a word. New has made it, and Start has looked at who: there is no
// fault.
func (x *Epochs) load(who, word int) uint64 {
	found, _ := x.words.Load(who, word)
	return found
}

// swap: likewise.
func (x *Epochs) swap(who, word int, old, next uint64) bool {
	changed, _ := x.words.Swap(who, word, old, next)
	return changed
}
