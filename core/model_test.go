package core

import (
	"iter"
	"maps"
	"slices"
	"testing"

	"spigot/api"
	"spigot/book"
	"spigot/gcra"
	"spigot/hash"
	"spigot/perm"
	"spigot/rate"
)

// The chapter's words, told straight on: a call of a model is a plain function that
// waits ahead of each access till it is stepped.

// spot is the word R(level, i); the others have levels below 0.
type spot struct{ level, i int }

var (
	theD      = spot{level: -1}
	theNumber = spot{level: -2} // the count
	theLast   = spot{level: -3} // the serial
)

const cold = 1 << 62

// version is what a word holds under a number. It never changes.
type version struct {
	spot
	number uint64
}

type held = map[string]api.Cell

type model struct {
	list  []api.Policy
	room  int
	now   int64
	words map[spot]uint64
	holds map[version]held
	steps int
	work  map[int]*job
	// The calls, in the order in which each was done, as if at once.
	order []*point
	// What was granted of each rate key, by the clocks that were read.
	granted map[string][]gcra.Ask
	serials map[int64]int // how often each was taken
	freed   map[int64]int // how often each was given back
}

// point is a call that was done; one that is not known yet to be done is empty.
type point struct {
	call   api.Call
	now    int64
	serial int64
	reply  api.Reply
}

// job is a pending call.
type job struct {
	call   api.Call
	id     string
	found  *point // where its shard was last found
	yield  func(struct{}) bool
	next   func() (struct{}, bool)
	stop   func()
	result Result
}

// left is the panic by which a call that is left for ever ends in a test.
type left struct{}

func newModel(list []api.Policy, room int) *model {
	return &model{
		list:    list,
		room:    room,
		words:   map[spot]uint64{{0, 0}: 1},
		holds:   map[version]held{{spot{0, 0}, 1}: {}},
		work:    map[int]*job{},
		granted: map[string][]gcra.Ask{},
		serials: map[int64]int{},
		freed:   map[int64]int{},
	}
}

func (m *model) start(who int, call api.Call) {
	w := &job{call: call}
	w.call.Key = slices.Clone(call.Key)
	if call.Op < api.OpEvict {
		id, _ := hash.Ident(call.Policy, call.Key)
		w.id = string(id)
	}
	w.next, w.stop = iter.Pull(func(yield func(struct{}) bool) {
		defer func() {
			if r := recover(); r != nil && r != (left{}) {
				panic(r)
			}
		}()
		w.yield = yield
		w.result = Result{Reply: m.run(w)}
		w.result.Done = true
	})
	w.next()
	m.work[who] = w
}

func (m *model) step(who int) Result {
	m.steps++
	w := m.work[who]
	w.next()
	if w.result.Done {
		delete(m.work, who)
	}
	return w.result
}

func (m *model) end() {
	for _, w := range m.work {
		w.stop()
	}
}

func (w *job) wait() {
	if !w.yield(struct{}{}) {
		panic(left{})
	}
}

func (m *model) load(w *job, at spot) uint64 {
	w.wait()
	return m.words[at]
}

func (m *model) clock(w *job) int64 {
	w.wait()
	return m.now
}

func (m *model) swap(w *job, at spot, old, next uint64) bool {
	w.wait()
	if m.words[at] != old {
		return false
	}
	m.words[at] = next
	return true
}

func placed(sum uint64, level int) spot { return spot{level, int(sum % (1 << level))} }

func (m *model) freeze(w *job, at spot) {
	for {
		n := m.load(w, at)
		if n >= cold || m.swap(w, at, n, n+cold) {
			return
		}
	}
}

// fill: the Swap of 0 for 1.
func (m *model) fill(w *job, at spot) {
	if m.swap(w, at, 0, 1) {
		m.holds[version{at, 1}] = m.cutOut(at)
	}
}

func (m *model) cutOut(at spot) held {
	whole := placed(uint64(at.i), at.level-1)
	part := held{}
	for id, c := range m.holds[version{whole, m.words[whole] % cold}] {
		if placed(hash.Sum([]byte(id)), at.level) == at {
			part[id] = c
		}
	}
	return part
}

func (m *model) find(w *job, sum uint64) version {
	v := m.look(w, sum)
	w.found = &point{}
	m.order = append(m.order, w.found)
	return v
}

func (m *model) look(w *job, sum uint64) version {
	for {
		d := m.load(w, theD)
		level := int(d / 2)
		if d%2 == 0 {
			at := placed(sum, level)
			if n := m.load(w, at); n != 0 && n < cold {
				return version{at, n}
			}
			continue
		}
		m.freeze(w, placed(sum, level))
		at := placed(sum, level+1)
		n := m.load(w, at)
		if n == 0 {
			m.fill(w, at)
			n = m.load(w, at)
		}
		if n < cold {
			return version{at, n}
		}
	}
}

// change is the Swap of a shard.
func (m *model) change(w *job, v version, next held) bool {
	if !m.swap(w, v.spot, v.number, v.number+1) {
		return false
	}
	m.holds[version{v.spot, v.number + 1}] = next
	return true
}

// with is a version with another cell.
func (m *model) with(v version, id string, c api.Cell) held {
	next := maps.Clone(m.holds[v])
	next[id] = c
	return next
}

func (m *model) reserve(w *job) bool {
	for {
		n := m.load(w, theNumber)
		if n == uint64(m.room) {
			return false
		}
		if m.swap(w, theNumber, n, n+1) {
			return true
		}
	}
}

func (m *model) giveBack(w *job, n int) {
	for {
		old := m.load(w, theNumber)
		if m.swap(w, theNumber, old, old-uint64(n)) {
			return
		}
	}
}

func (m *model) run(w *job) api.Reply {
	switch w.call.Op {
	case api.OpAllow:
		return m.allow(w)
	case api.OpAcquire:
		return m.acquire(w)
	case api.OpRelease:
		return m.release(w)
	case api.OpPeek:
		return m.peek(w)
	case api.OpEvict:
		return m.evict(w)
	}
	return m.split(w)
}

// unchanged: the call was done when its shard was last found.
func (w *job) unchanged(r api.Reply, now, serial int64) api.Reply {
	*w.found = point{call: w.call, now: now, serial: serial, reply: r}
	return r
}

// changed: the call was done with the Swap of this step.
func (m *model) changed(w *job, r api.Reply, now, serial int64) {
	m.order = append(m.order, &point{call: w.call, now: now, serial: serial, reply: r})
}

func (m *model) allow(w *job) api.Reply {
	limit, reserved := m.list[w.call.Policy].Limit, false
	for {
		v := m.find(w, hash.Sum([]byte(w.id)))
		now := m.clock(w)
		c, known := m.holds[v][w.id]
		a, _ := gcra.Decide(limit, c.TAT, now, w.call.N)
		r := api.Reply{Granted: a.Granted, Left: a.Left, Wait: a.Wait, Now: now}
		if !a.Granted || w.call.N == 0 {
			w.unchanged(r, now, 0)
			if reserved {
				m.giveBack(w, 1)
			}
			return r
		}
		if !known && !reserved {
			if !m.reserve(w) {
				return api.Reply{E: api.ErrFull}
			}
			reserved = true
		}
		next := m.with(v, w.id, api.Cell{Policy: w.call.Policy, Key: w.call.Key, TAT: a.TAT})
		if m.change(w, v, next) {
			m.changed(w, r, now, 0)
			m.granted[w.id] = append(m.granted[w.id], gcra.Ask{Now: now, N: w.call.N})
			if known && reserved {
				m.giveBack(w, 1)
			}
			return r
		}
	}
}

func (m *model) acquire(w *job) api.Reply {
	permits, reserved, serial := m.list[w.call.Policy].Permits, false, int64(0)
	for {
		v := m.find(w, hash.Sum([]byte(w.id)))
		c, known := m.holds[v][w.id]
		if len(c.Held) == permits {
			r := w.unchanged(api.Reply{E: api.ErrBusy}, 0, max(serial, 1<<61))
			if reserved {
				m.giveBack(w, 1)
			}
			return r
		}
		for serial == 0 {
			last := m.load(w, theLast)
			if last == api.Max {
				return api.Reply{E: api.ErrRange}
			}
			if m.swap(w, theLast, last, last+1) {
				serial = int64(last + 1)
			}
		}
		if !known && !reserved {
			if !m.reserve(w) {
				return api.Reply{E: api.ErrFull}
			}
			reserved = true
		}
		s, _ := perm.Take(perm.Sema{Permits: permits, Held: c.Held}, serial)
		if m.change(w, v, m.with(v, w.id, api.Cell{Policy: w.call.Policy, Key: w.call.Key, Held: s.Held})) {
			r := api.Reply{Granted: true, Left: int64(permits - len(s.Held)), Serial: serial}
			m.changed(w, r, 0, serial)
			m.serials[serial]++
			if known && reserved {
				m.giveBack(w, 1)
			}
			return r
		}
	}
}

func (m *model) release(w *job) api.Reply {
	permits := m.list[w.call.Policy].Permits
	for {
		v := m.find(w, hash.Sum([]byte(w.id)))
		c := m.holds[v][w.id]
		s, e := perm.Give(perm.Sema{Permits: permits, Held: c.Held}, w.call.N)
		if e != api.OK {
			return w.unchanged(api.Reply{E: api.ErrToken}, 0, 0)
		}
		if m.change(w, v, m.with(v, w.id, api.Cell{Policy: w.call.Policy, Key: w.call.Key, Held: s.Held})) {
			r := api.Reply{Granted: true, Left: int64(permits - len(s.Held))}
			m.changed(w, r, 0, 0)
			m.freed[w.call.N]++
			return r
		}
	}
}

func (m *model) peek(w *job) api.Reply {
	p := m.list[w.call.Policy]
	v := m.find(w, hash.Sum([]byte(w.id)))
	c := m.holds[v][w.id]
	if p.Kind == api.KindSema {
		return w.unchanged(api.Reply{Left: int64(p.Permits - len(c.Held))}, 0, 0)
	}
	now := m.clock(w)
	n, _ := gcra.Left(p.Limit, c.TAT, now)
	return w.unchanged(api.Reply{Left: n, Wait: max(0, c.TAT-now), Now: now}, now, 0)
}

func (m *model) evict(w *job) api.Reply {
	d := m.load(w, theD)
	level := d/2 + d%2
	forgotten := 0
	for j := range uint64(1) << level {
		v := m.find(w, j)
		if len(m.holds[v]) == 0 {
			continue
		}
		now := m.clock(w)
		others := maps.Clone(m.holds[v])
		maps.DeleteFunc(others, func(_ string, c api.Cell) bool { return isIdle(c, now) })
		n := len(m.holds[v]) - len(others)
		if n > 0 && m.change(w, v, others) {
			forgotten += n
			m.giveBack(w, n)
		}
	}
	return api.Reply{Left: int64(forgotten)}
}

func isIdle(c api.Cell, now int64) bool { return c.TAT <= now && len(c.Held) == 0 }

func (m *model) split(w *job) api.Reply {
	var d uint64
	for {
		d = m.load(w, theD)
		if d == 8 {
			return api.Reply{E: api.ErrRange}
		}
		if d%2 == 1 {
			break
		}
		if m.swap(w, theD, d, d+1) {
			d++
			break
		}
	}
	level := int(d / 2)
	for i := range 1 << level {
		m.freeze(w, spot{level, i})
		for _, j := range []int{i, i + 1<<level} {
			if m.load(w, spot{level + 1, j}) == 0 {
				m.fill(w, spot{level + 1, j})
			}
		}
	}
	m.swap(w, theD, d, d+1)
	return api.Reply{}
}

// cells are those that a call would find.
func (m *model) cells() []api.Cell {
	d := m.words[theD]
	level := int(d/2 + d%2)
	all := held{}
	for i := range 1 << level {
		at := spot{level, i}
		if n := m.words[at]; n == 0 {
			maps.Copy(all, m.cutOut(at))
		} else {
			maps.Copy(all, m.holds[version{at, n % cold}])
		}
	}
	return inIDs(all)
}

func inIDs(all held) []api.Cell {
	var list []api.Cell
	for _, id := range slices.Sorted(maps.Keys(all)) {
		list = append(list, all[id])
	}
	return list
}

// watched is a limiter beside a model of it.
type watched struct {
	*Core
	*model
}

func watch(t *testing.T, list []api.Policy, room int) *watched {
	return &watched{Core: made(t, list, room), model: newModel(list, room)}
}

func (w *watched) start(t *testing.T, who int, call api.Call) {
	want := book.Check(w.model.list, call)
	switch {
	case who < 0 || who >= 64:
		want = api.ErrArg
	case want != api.OK:
	case w.work[who] != nil:
		want = api.ErrBusy
	default:
		w.model.start(who, call)
	}
	wantStart(t, w.Core, who, call, want)
}

func (w *watched) step(t *testing.T, who int) Result {
	switch {
	case who < 0 || who >= 64:
		wantStep(t, w.Core, who, empty, api.ErrArg)
		return empty
	case w.work[who] == nil:
		wantStep(t, w.Core, who, empty, api.ErrNone)
		return empty
	}
	want := w.model.step(who)
	wantStep(t, w.Core, who, want, api.OK)
	return want
}

func (w *watched) tick(t *testing.T, n int64) {
	w.now = min(w.now+n, api.Max)
	wantTick(t, w.Core, n, w.now, api.OK)
}

// hold holds what the limiter tells against what was told.
func (w *watched) hold(t *testing.T) {
	cells, count := w.cells(), int64(w.model.words[theNumber])
	wantCells(t, w.Core, count, cells...)
	if count < int64(len(cells)) || count > int64(w.room) {
		t.Errorf("the count is %d, with %d cells and room for %d", count, len(cells), w.room)
	}
	if len(w.work) == 0 && count != int64(len(cells)) {
		t.Errorf("the count is %d, with %d cells and no call pending", count, len(cells))
	}
	d := w.model.words[theD]
	wantLevel(t, w.Core, int(d/2), d%2 == 1)
	if got := w.Steps(); got != w.steps {
		t.Errorf("Steps = %d, not %d", got, w.steps)
	}
	for _, who := range []int{-1, 0, 1, 2, 3, 7, 8, 62, 63, 64} {
		wantPending(t, w.Core, who, w.work[who] != nil)
	}
	for _, c := range cells {
		if permits := w.model.list[c.Policy].Permits; len(c.Held) > permits {
			t.Errorf("%v: more held than %d permits", c, permits)
		}
	}
}

// asIfAtOnce is P17.3: done one behind the other, the calls have had the replies that
// they had, and leave the cells that there are, but for those that are idle.
func (w *watched) asIfAtOnce(t *testing.T) {
	b, _ := book.New(w.model.list, api.MaxCells)
	for n, p := range w.order {
		if p.call.Op == 0 {
			continue
		}
		if got := b.Do(p.call, p.now, p.serial); got != p.reply {
			t.Errorf("call %d, %v at %d: %v, not as if at once: %v", n, p.call, p.now, p.reply, got)
		}
	}
	idle := func(c api.Cell) bool { return isIdle(c, w.now) }
	want := slices.DeleteFunc(b.Cells(), idle)
	if got := slices.DeleteFunc(w.Cells(), idle); !slices.EqualFunc(got, want, sameCell) {
		t.Errorf("Cells are %v, not as if at once: %v", got, want)
	}
}

// neverMore is P17.4, as far as it is not looked at with each step.
func (w *watched) neverMore(t *testing.T) {
	for id, asks := range w.granted {
		limit := w.model.list[id[0]].Limit
		for _, from := range asks {
			for _, to := range asks {
				if from.Now > to.Now {
					continue
				}
				sum := int64(0)
				for _, a := range asks {
					if a.Now >= from.Now && a.Now <= to.Now {
						sum += a.N
					}
				}
				if most, _ := rate.Within(limit, to.Now-from.Now); sum > most {
					t.Errorf("%q: %d granted from %d to %d, more than %d", id, sum, from.Now, to.Now, most)
				}
			}
		}
	}
	for _, often := range []map[int64]int{w.serials, w.freed} {
		for serial, n := range often {
			if n != 1 {
				t.Errorf("the serial %d %d times", serial, n)
			}
		}
	}
}
