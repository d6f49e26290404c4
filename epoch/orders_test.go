package epoch

import (
	"math/rand"
	"slices"
	"testing"

	"spigot/api"
)

// told is what the chapter's words make of the calls of up to four workers.
type told struct {
	size int
	e    int64
	at   [4]oneTold
	kept [24]keptThing // the place of a thing is its number
}

type oneTold struct {
	word   int64 // P[w]
	pinned bool
	op     byte
	line   int // how many steps of the call were done, but that a Pin comes back to 1
	read   int64
	thing  int
}

// keptThing is a thing that a worker has given up and that was not taken yet.
type keptThing struct {
	is     bool
	owner  int
	epoch  int64
	lookAt [4]bool // whose Pin had returned, and whose Unpin has done no step since
}

func (m *told) mayStart(who int, op byte) api.Errno {
	w := &m.at[who]
	switch {
	case w.op != 0:
		return api.ErrBusy
	case op == Unpin && !w.pinned:
		return api.ErrNone
	case op == Pin && w.pinned:
		return api.ErrExists
	}
	return api.OK
}

func (m *told) start(who int, op byte, thing int) api.Errno {
	fault := m.mayStart(who, op)
	if fault == api.OK {
		w := &m.at[who]
		w.op, w.line, w.read, w.thing = op, 0, 0, thing
	}
	return fault
}

// step does the next step of a pending call, and asks of each thing that is taken
// whether somebody may still look at it (P13.3).
func (m *told) step(t *testing.T, who int) Result {
	t.Helper()
	r := empty
	w := &m.at[who]
	switch w.op {
	case Pin:
		r = w.pin(m.e)
	case Unpin:
		w.word, w.pinned, r = 0, false, ok(0)
		for thing := range m.kept {
			m.kept[thing].lookAt[who] = false
		}
	case Retire:
		m.retire(who)
		r = ok(m.e)
	case Advance:
		r = m.advance(w)
	case Collect:
		r = m.collect(t, who)
	}
	if r.Done {
		w.op, w.line, w.read, w.thing = 0, 0, 0, 0
	}
	return r
}

func (w *oneTold) pin(e int64) Result {
	switch {
	case w.line == 0:
		w.read, w.line = e, 1
	case w.line == 1:
		w.word, w.line = w.read+1, 2
	case w.read != e:
		w.read, w.line = e, 1
	default:
		w.pinned = true
		return ok(e)
	}
	return empty
}

func (m *told) retire(who int) {
	k := &m.kept[m.at[who].thing]
	k.is, k.owner, k.epoch = true, who, m.e
	for other := range m.size {
		k.lookAt[other] = m.at[other].pinned
	}
}

func (m *told) advance(w *oneTold) Result {
	line := w.line
	w.line++
	switch {
	case line == 0:
		w.read = m.e
	case line <= m.size:
		if p := m.at[line-1].word; p != 0 && p != w.read+1 {
			return busy
		}
	case m.e != w.read:
		return ok(0)
	default:
		m.e++
		return ok(m.e)
	}
	return empty
}

// collect: things are given up in the order of their numbers here.
func (m *told) collect(t *testing.T, who int) Result {
	t.Helper()
	var out []int
	for thing := range m.kept {
		k := &m.kept[thing]
		if !k.is || k.owner != who || k.epoch > m.e-2 {
			continue
		}
		if k.lookAt != [4]bool{} {
			t.Error("a thing is taken at which somebody may look:", thing, *k)
		}
		out = append(out, thing)
		*k = keptThing{}
	}
	return taken(out...)
}

func (m *told) held(who int) []int {
	var out []int
	for thing, k := range m.kept {
		if k.is && k.owner == who {
			out = append(out, thing)
		}
	}
	return out
}

// pair is an Epochs beside what was told of it.
type pair struct {
	*Epochs
	told
}

func pairOf(t *testing.T, workers int) *pair {
	t.Helper()
	return &pair{Epochs: made(t, workers), told: told{size: workers}}
}

func (p *pair) start(t *testing.T, who int, op byte, thing int) {
	t.Helper()
	wantStart(t, p.Epochs, who, op, thing, p.told.start(who, op, thing))
}

func (p *pair) step(t *testing.T, who int) {
	t.Helper()
	if p.at[who].op == 0 {
		wantStep(t, p.Epochs, who, empty, api.ErrNone)
		return
	}
	wantStep(t, p.Epochs, who, p.told.step(t, who), api.OK)
}

// hold holds what the Epochs tells against what was told.
func (p *pair) hold(t *testing.T) {
	t.Helper()
	wantEpoch(t, p.Epochs, p.e)
	for who := range p.size {
		wantPending(t, p.Epochs, who, p.at[who].op != 0)
		wantPinned(t, p.Epochs, who, p.at[who].pinned)
		wantHeld(t, p.Epochs, who, p.held(who)...)
	}
}

// bringAll: with nobody pinned and no call pending, three Advances and a Collect
// bring all that a worker has given up.
func (p *pair) bringAll(t *testing.T) {
	t.Helper()
	for who := range p.size {
		for p.Pending(who) {
			p.step(t, who)
		}
		if p.Pinned(who) {
			p.start(t, who, Unpin, 0)
			p.step(t, who)
		}
	}
	for n := range 3 {
		wantAlone(t, p.Epochs, n%p.size, Advance, 0, p.size+2, ok(p.e+1))
		p.e++
	}
	for who := range p.size {
		all := p.held(who)
		wantAlone(t, p.Epochs, who, Collect, 0, 1, taken(all...))
		wantHeld(t, p.Epochs, who)
	}
}

// P13.1 to P13.3

func TestByChance(t *testing.T) {
	rnd := rand.New(rand.NewSource(13))
	for round := range 3000 {
		p := pairOf(t, 1+rnd.Intn(4))
		next := 0
		for range 20 + rnd.Intn(200) {
			who := rnd.Intn(p.size)
			if rnd.Intn(3) > 0 {
				p.step(t, who)
			} else if op := byte(1 + rnd.Intn(5)); op != Retire {
				p.start(t, who, op, rnd.Int())
			} else if next < len(p.kept) {
				p.start(t, who, op, next)
				if p.at[who].op == Retire && p.at[who].thing == next {
					next++
				}
			}
			p.hold(t)
			if t.Failed() {
				t.Fatal("round", round)
			}
		}
		p.bringAll(t)
	}
}

// orders looks at all orders in which workers do their calls, each one its own
// behind each other. Of orders that lead to one state only the first goes on.
type orders struct {
	calls [][]byte
	seen  map[state]bool
}

type state struct {
	told
	begun [4]int
}

// at runs an order of steps: who has no pending call begins its next one first. A
// thing's number is made of who gives it up, and in which of its calls.
func (o *orders) at(t *testing.T, picks []int) (*pair, state) {
	t.Helper()
	p := pairOf(t, len(o.calls))
	var begun [4]int
	for _, who := range picks {
		if p.at[who].op == 0 {
			p.start(t, who, o.calls[who][begun[who]], 8*who+begun[who])
			begun[who]++
		}
		p.step(t, who)
	}
	p.hold(t)
	return p, state{told: p.told, begun: begun}
}

func (o *orders) look(t *testing.T, picks []int) {
	t.Helper()
	p, s := o.at(t, picks)
	if o.seen[s] {
		return
	}
	o.seen[s] = true
	p.bringAll(t)
	if t.Failed() {
		t.Fatal(o.calls, picks)
	}
	for who, calls := range o.calls {
		next := s.at[who].op == 0 && s.begun[who] < len(calls)
		// What may not begin stays behind for ever, and its worker with it.
		if next && s.mayStart(who, calls[s.begun[who]]) != api.OK {
			continue
		}
		if next || s.at[who].op != 0 {
			o.look(t, append(slices.Clip(picks), who))
		}
	}
}

func TestAllOrders(t *testing.T) {
	seen := 0
	for _, calls := range [][][]byte{
		{{Pin, Unpin, Pin}, {Retire, Advance, Advance, Collect}},
		{{Pin, Retire, Unpin, Collect}, {Advance, Advance, Retire, Advance, Collect}},
		{{Pin, Unpin, Pin, Unpin}, {Advance, Advance, Advance, Advance}},
		{{Advance, Advance, Advance}, {Retire, Advance, Advance, Advance, Collect}},
		{{Pin}, {Retire, Advance, Collect}, {Advance, Advance}},
		{{Pin, Unpin}, {Retire, Advance, Collect, Collect}, {Advance, Retire}},
	} {
		o := &orders{calls: calls, seen: map[state]bool{}}
		o.look(t, nil)
		seen += len(o.seen)
	}
	if seen < 5000 {
		t.Error("no more states than", seen)
	}
}
