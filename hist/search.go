package hist

import (
	"slices"

	"spigot/api"
	"spigot/cell"
)

// search looks for an order of the calls on one identity.
type search struct {
	policy api.Policy
	calls  []Done
	serial int64 // one that none of them names
	seen   map[state]struct{}
}

// state is all that the rest of a search hangs on: which calls are done, a bit for
// each, and the TAT then. What is held behind them is the same in whatever order they
// were done, as each had the reply that it has.
type state struct {
	done uint
	tat  int64
}

// hasOrder: is there one that explains the replies of the calls on an identity?
func hasOrder(p api.Policy, calls []Done) bool {
	s := search{policy: p, calls: calls, serial: unnamed(calls), seen: map[state]struct{}{}}
	return s.goOn(nil, cell.Cell{})
}

// goOn: can the other calls be done behind those that are done, by their places, and
// have left the cell c?
func (s search) goOn(done []int, c cell.Cell) bool {
	if len(done) == len(s.calls) {
		return true
	}
	if s.wasHere(done, c) {
		return false
	}
calls:
	for i, d := range s.calls {
		if slices.Contains(done, i) {
			continue
		}
		for j, other := range s.calls {
			if other.goesAhead(d) && !slices.Contains(done, j) {
				continue calls
			}
		}
		behind, matches := s.do(d, c)
		if matches && s.goOn(append(done[:len(done):len(done)], i), behind) {
			return true
		}
	}
	return false
}

// wasHere: was the search here before, and has found nothing?
func (s search) wasHere(done []int, c cell.Cell) bool {
	at := state{tat: c.TAT}
	for _, i := range done {
		at.done |= 1 << i
	}
	_, was := s.seen[at]
	s.seen[at] = struct{}{}
	return was
}

// do is the cell behind the call, and whether the call has the reply that it had.
func (s search) do(d Done, c cell.Cell) (cell.Cell, bool) {
	serial := d.Reply.Serial
	if serial == 0 {
		serial = s.serial
	}
	reply, behind, changed := cell.Do(s.policy, c, d.Call, d.Reply.Now, serial)
	if !changed {
		behind = c
	}
	return behind, reply == d.Reply
}

// goesAhead: has it returned ahead of the other one's first step?
func (d Done) goesAhead(other Done) bool { return d.Last < other.First }

// unnamed is a serial that no call names.
func unnamed(calls []Done) int64 {
	serial := int64(1)
	named := func(d Done) bool { return d.Reply.Serial == serial || d.Call.N == serial }
	for slices.ContainsFunc(calls, named) {
		serial++
	}
	return serial
}
