package sim

import (
	"bytes"

	"spigot/api"
	"spigot/core"
	"spigot/hist"
)

// theClock is who is picked where no worker is.
const theClock = -1

// play is a script under way.
type play struct {
	limiter *core.Core
	workers []worker
	calls   []hist.Done // those that have returned
}

// worker is what one of the script is about.
type worker struct {
	left  []api.Call // not begun yet
	call  api.Call   // the one that was begun last
	first int        // how many accesses there were behind its first step
}

func (p *play) goBy(pick Pick) {
	if pick.Who == theClock {
		// Check has looked at the ticks: there is no fault.
		p.limiter.Tick(pick.Ticks)
		return
	}
	p.goOn(pick.Who)
}

// finish: nobody is left in the midst.
func (p *play) finish() {
	for who := range p.workers {
		for p.goOn(who) {
		}
	}
}

// goOn is a step of a worker; false: there is nothing for it to do.
func (p *play) goOn(who int) bool {
	begins := !p.limiter.Pending(who)
	if begins && !p.begin(who) {
		return false
	}
	w := &p.workers[who]
	result, _ := p.limiter.Step(who)
	steps := p.limiter.Steps()
	if begins {
		w.first = steps
	}
	if result.Done {
		call := w.call
		call.Key = bytes.Clone(call.Key)
		p.calls = append(p.calls, hist.Done{Who: who, Call: call, First: w.first, Last: steps, Reply: result.Reply})
	}
	return true
}

// begin: the first call that was not begun yet, if there is one.
func (p *play) begin(who int) bool {
	w := &p.workers[who]
	if len(w.left) == 0 {
		return false
	}
	w.call, w.left = w.left[0], w.left[1:]
	// Check has looked at the call, and no other one is pending: there is no fault.
	p.limiter.Start(who, w.call)
	return true
}

func (p *play) report() Report {
	// By no ticks the clock is told as it is.
	now, _ := p.limiter.Tick(0)
	return Report{
		Calls:   p.calls,
		Cells:   p.limiter.Cells(),
		Now:     now,
		Steps:   p.limiter.Steps(),
		Count:   p.limiter.Count(),
		Pending: p.pending(),
	}
}

// pending is how many calls were begun and have not returned.
func (p *play) pending() int {
	n := 0
	for who := range p.workers {
		if p.limiter.Pending(who) {
			n++
		}
	}
	return n
}
