package dir

import (
	"iter"
	"maps"
	"slices"
	"testing"

	"spigot/api"
	"spigot/hash"
)

// The chapter's words, told straight on: a call of a model is a plain function
// that waits ahead of each access till it is stepped.

// spot is the word R(level, i); D is the one of level -1.
type spot struct{ level, i int }

var theD = spot{level: -1}

const cold = 1 << 62

// version is what a word holds under a number.
type version struct {
	spot
	number uint64
}

type model struct {
	words map[spot]uint64
	holds map[version]map[string]int64
	plain map[string]int64 // each call was done on it at the step with which it returned
	steps int
	work  map[int]*work
}

// work is a pending call.
type work struct {
	op     byte
	key    string
	value  int64
	yield  func(struct{}) bool
	next   func() (struct{}, bool)
	stop   func()
	result Result
}

// left is the panic by which a call that is left for ever ends in a test.
type left struct{}

func newModel() *model {
	return &model{
		words: map[spot]uint64{{0, 0}: 1},
		holds: map[version]map[string]int64{{spot{0, 0}, 1}: {}},
		plain: map[string]int64{},
		work:  map[int]*work{},
	}
}

func (m *model) start(who int, op byte, key string, value int64) {
	w := &work{op: op, key: key, value: value}
	w.next, w.stop = iter.Pull(func(yield func(struct{}) bool) {
		defer func() {
			if r := recover(); r != nil && r != (left{}) {
				panic(r)
			}
		}()
		w.yield = yield
		w.result = m.run(w)
		w.result.Done = true
	})
	w.next()
	m.work[who] = w
}

func (m *model) step(who int) Result {
	m.steps++
	w := m.work[who]
	w.next()
	if w.result.Done {
		delete(m.work, who)
	}
	return w.result
}

func (m *model) end() {
	for _, w := range m.work {
		w.stop()
	}
}

func (w *work) wait() {
	if !w.yield(struct{}{}) {
		panic(left{})
	}
}

func (m *model) load(w *work, at spot) uint64 {
	w.wait()
	return m.words[at]
}

func (m *model) swap(w *work, at spot, old, next uint64) bool {
	w.wait()
	if m.words[at] != old {
		return false
	}
	m.words[at] = next
	return true
}

func placed(key string, level int) spot {
	i, _ := hash.Shard([]byte(key), level)
	return spot{level, i}
}

func (m *model) freeze(w *work, at spot) {
	for {
		n := m.load(w, at)
		if n >= cold || m.swap(w, at, n, n+cold) {
			return
		}
	}
}

// fill: the Swap of 0 for 1.
func (m *model) fill(w *work, at spot) {
	if m.swap(w, at, 0, 1) {
		m.holds[version{at, 1}] = m.cutOut(at)
	}
}

func (m *model) cutOut(at spot) map[string]int64 {
	whole := spot{at.level - 1, at.i % (1 << (at.level - 1))}
	part := map[string]int64{}
	for key, value := range m.holds[version{whole, m.words[whole] % cold}] {
		if placed(key, at.level) == at {
			part[key] = value
		}
	}
	return part
}

func (m *model) find(w *work) version {
	for {
		d := m.load(w, theD)
		level := int(d / 2)
		if d%2 == 0 {
			at := placed(w.key, level)
			if n := m.load(w, at); n != 0 && n < cold {
				return version{at, n}
			}
			continue
		}
		m.freeze(w, placed(w.key, level))
		at := placed(w.key, level+1)
		n := m.load(w, at)
		if n == 0 {
			m.fill(w, at)
			n = m.load(w, at)
		}
		if n < cold {
			return version{at, n}
		}
	}
}

func (m *model) run(w *work) Result {
	if w.op == Split {
		return m.split(w)
	}
	for {
		v := m.find(w)
		value, there := m.holds[v][w.key]
		if w.op != Put && !there {
			return Result{E: api.ErrNone}
		}
		next := maps.Clone(m.holds[v])
		switch w.op {
		case Get:
			return Result{N: value}
		case Put:
			value = w.value
			next[w.key] = value
		case Drop:
			delete(next, w.key)
		}
		if m.swap(w, v.spot, v.number, v.number+1) {
			m.holds[version{v.spot, v.number + 1}] = next
			return Result{N: value}
		}
	}
}

func (m *model) split(w *work) Result {
	var d uint64
	for {
		d = m.load(w, theD)
		if d == 8 {
			return Result{E: api.ErrRange}
		}
		if d%2 == 1 {
			break
		}
		if m.swap(w, theD, d, d+1) {
			d++
			break
		}
	}
	level := int(d / 2)
	for i := range 1 << level {
		m.freeze(w, spot{level, i})
		for _, j := range []int{i, i + 1<<level} {
			if m.load(w, spot{level + 1, j}) == 0 {
				m.fill(w, spot{level + 1, j})
			}
		}
	}
	m.swap(w, theD, d, d+1)
	return Result{}
}

// watched is a directory beside a model of it.
type watched struct {
	*Dir
	*model
}

func watch(t *testing.T) *watched {
	return &watched{Dir: made(t), model: newModel()}
}

func isTick(n int64) bool { return n >= 0 && n <= api.Max }

func (w *watched) start(t *testing.T, who int, op byte, key string, value int64) {
	want := api.OK
	switch {
	case who < 0 || who >= 64 || op < 1 || op > 4 || op == Put && !isTick(value):
		want = api.ErrArg
	case op != Split && len(key) > 256:
		want = api.ErrLong
	case w.work[who] != nil:
		want = api.ErrBusy
	default:
		w.model.start(who, op, key, value)
	}
	wantStart(t, w.Dir, who, op, key, value, want)
}

// step: what is answered, and what the call has done, as if at once.
func (w *watched) step(t *testing.T, who int) {
	at := w.work[who]
	switch {
	case who < 0 || who >= 64:
		wantStep(t, w.Dir, who, empty, api.ErrArg)
		return
	case at == nil:
		wantStep(t, w.Dir, who, empty, api.ErrNone)
		return
	}
	want := w.model.step(who)
	wantStep(t, w.Dir, who, want, api.OK)
	if !want.Done || at.op == Split {
		return
	}
	value, there := w.plain[at.key]
	if at.op == Put {
		value, there = at.value, true
		w.plain[at.key] = value
	}
	if want.E == api.OK != there || want.N != value {
		t.Errorf("worker %d, call %d of %q: %v, not as if at once: %v, %d", who, at.op, at.key, want, there, value)
	}
	if at.op == Drop {
		delete(w.plain, at.key)
	}
}

// hold holds what the directory tells against what was told.
func (w *watched) hold(t *testing.T) {
	var want []Entry
	for _, key := range slices.Sorted(maps.Keys(w.plain)) {
		want = append(want, at(key, w.plain[key]))
	}
	wantEntries(t, w.Dir, want...)
	d := w.words[theD]
	wantLevel(t, w.Dir, int(d/2), d%2 == 1)
	if got := w.Steps(); got != w.steps {
		t.Errorf("Steps = %d, not %d", got, w.steps)
	}
	for _, who := range []int{-1, 0, 1, 2, 3, 7, 8, 62, 63, 64} {
		wantPending(t, w.Dir, who, w.work[who] != nil)
	}
}
