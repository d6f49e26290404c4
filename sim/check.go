package sim

import (
	"slices"

	"spigot/api"
	"spigot/book"
	"spigot/core"
	"spigot/tick"
)

func (c Config) check() api.Errno {
	_, fault := core.New(c.Policies, c.Cells)
	return least(fault, c.checkPicks(), c.checkSizes(), c.checkCalls())
}

func (c Config) checkPicks() api.Errno {
	isWrong := func(p Pick) bool { return !p.isFor(len(c.Work)) }
	if slices.ContainsFunc(c.Picks, isWrong) {
		return api.ErrArg
	}
	return api.OK
}

// isFor: is it one of so many workers, or one of the clock? Ticks are the clock's
// alone.
func (p Pick) isFor(workers int) bool {
	if p.Who == theClock {
		return tick.Form(p.Ticks)
	}
	return p.Who >= 0 && p.Who < workers
}

func (c Config) checkSizes() api.Errno {
	calls := 0
	for _, some := range c.Work {
		calls += len(some)
	}
	if len(c.Work) > api.MaxWorkers || calls > api.MaxSamples || len(c.Picks) > api.MaxPicks {
		return api.ErrLong
	}
	return api.OK
}

// checkCalls: where there is no table, there is nothing that a call could be held
// against.
func (c Config) checkCalls() api.Errno {
	found := api.OK
	if book.Policies(c.Policies) != api.OK {
		return found
	}
	for _, some := range c.Work {
		for _, call := range some {
			found = least(found, book.Check(c.Policies, call))
		}
	}
	return found
}

// least: of several errors the one with the least number; OK is none.
func least(faults ...api.Errno) api.Errno {
	found := api.OK
	for _, fault := range faults {
		if fault != api.OK && (found == api.OK || fault < found) {
			found = fault
		}
	}
	return found
}
