package count

import (
	"math"
	"math/rand"
	"slices"
	"testing"

	"spigot/api"
)

// outside are numbers that are no worker; noCalls are none of the three calls.
var (
	outside = []int{-1, -2, 64, 65, 4096, 1 << 32, math.MaxInt, math.MinInt}
	noCalls = []byte{0, 4, 5, 128, 129, 255}
)

var (
	empty = Result{}
	full  = Result{Done: true, E: api.ErrFull}
	below = Result{Done: true, E: api.ErrRange}
)

func ok(n int64) Result { return Result{Done: true, N: n} }

// made: New, which must not fail.
func made(t *testing.T, limit int64) *Counter {
	t.Helper()
	c, fault := New(limit)
	if c == nil || fault != api.OK {
		t.Fatalf("New(%d) = %v, %d", limit, c, fault)
	}
	return c
}

func wantStart(t *testing.T, c *Counter, who int, op byte, want api.Errno) {
	t.Helper()
	if got := c.Start(who, op); got != want {
		t.Errorf("Start(%d, %d) = %d, not %d", who, op, got, want)
	}
}

func wantStep(t *testing.T, c *Counter, who int, want Result, fault api.Errno) {
	t.Helper()
	if got, gotFault := c.Step(who); got != want || gotFault != fault {
		t.Errorf("Step(%d) = %v, %d, not %v, %d", who, got, gotFault, want, fault)
	}
}

// wantAlone begins a call and steps it, others standing still, till it returns.
func wantAlone(t *testing.T, c *Counter, who int, op byte, steps int, want Result) {
	t.Helper()
	wantStart(t, c, who, op, api.OK)
	for range steps - 1 {
		wantStep(t, c, who, empty, api.OK)
	}
	wantStep(t, c, who, want, api.OK)
	wantPending(t, c, who, false)
}

func wantPending(t *testing.T, c *Counter, who int, want bool) {
	t.Helper()
	if got := c.Pending(who); got != want {
		t.Errorf("Pending(%d) = %v, not %v", who, got, want)
	}
}

func wantState(t *testing.T, c *Counter, value int64, steps int) {
	t.Helper()
	if gotValue, gotSteps := c.Value(), c.Steps(); gotValue != value || gotSteps != steps {
		t.Errorf("Value, Steps = %d, %d, not %d, %d", gotValue, gotSteps, value, steps)
	}
}

// P12.1

func TestNew(t *testing.T) {
	for _, limit := range []int64{0, 1, 2, 64, 1 << 32, api.Max - 1, api.Max} {
		c := made(t, limit)
		wantState(t, c, 0, 0)
		for who := range 64 {
			wantPending(t, c, who, false)
			wantStep(t, c, who, empty, api.ErrNone)
		}
		wantState(t, c, 0, 0)
	}
	for _, limit := range []int64{-1, -2, -api.Max, math.MinInt64, api.Max + 1, math.MaxInt64} {
		if c, fault := New(limit); c != nil || fault != api.ErrArg {
			t.Errorf("New(%d) = %v, %d", limit, c, fault)
		}
	}
	x, y := made(t, 1), made(t, 1)
	wantAlone(t, x, 0, Up, 2, ok(1))
	wantStart(t, x, 1, Up, api.OK)
	wantPending(t, y, 1, false)
	wantState(t, y, 0, 0)
}

func TestExample(t *testing.T) {
	c := made(t, 1)
	wantStart(t, c, 0, Up, api.OK)
	wantStart(t, c, 1, Up, api.OK)
	wantState(t, c, 0, 0)
	wantStep(t, c, 0, empty, api.OK)
	wantStep(t, c, 1, empty, api.OK)
	wantStep(t, c, 0, ok(1), api.OK)
	wantStep(t, c, 1, empty, api.OK)
	wantStep(t, c, 1, full, api.OK)
	wantState(t, c, 1, 5)
}

func TestCallsAlone(t *testing.T) {
	c := made(t, 3)
	wantAlone(t, c, 0, Read, 1, ok(0))
	wantAlone(t, c, 0, Down, 1, below)
	for n := range int64(3) {
		wantAlone(t, c, int(n), Up, 2, ok(n+1))
		wantAlone(t, c, 63, Read, 1, ok(n+1))
	}
	wantAlone(t, c, 5, Up, 1, full)
	wantState(t, c, 3, 12)
	for n := range int64(3) {
		wantAlone(t, c, 60, Down, 2, ok(2-n))
		wantAlone(t, c, 61, Read, 1, ok(2-n))
	}
	wantAlone(t, c, 60, Down, 1, below)
	wantState(t, c, 0, 22)

	none := made(t, 0)
	wantAlone(t, none, 0, Up, 1, full)
	wantAlone(t, none, 0, Down, 1, below)
	wantAlone(t, none, 0, Read, 1, ok(0))
	wantState(t, none, 0, 3)

	most := made(t, api.Max)
	wantAlone(t, most, 0, Up, 2, ok(1))
	wantAlone(t, most, 0, Down, 2, ok(0))
}

// A Swap asks for what was read, not for whether it has stood since.
func TestSwapOfWhatCameBack(t *testing.T) {
	c := made(t, 5)
	wantStart(t, c, 0, Up, api.OK)
	wantStep(t, c, 0, empty, api.OK)
	wantAlone(t, c, 1, Up, 2, ok(1))
	wantAlone(t, c, 1, Down, 2, ok(0))
	wantStep(t, c, 0, ok(1), api.OK)
	wantState(t, c, 1, 6)
}

// A call begins anew as often as others come between, with the Load each time.
func TestBeginsAnew(t *testing.T) {
	c := made(t, 3)
	wantStart(t, c, 0, Up, api.OK)
	wantStart(t, c, 1, Down, api.OK)
	wantAlone(t, c, 2, Up, 2, ok(1))
	for n := range 10 {
		wantStep(t, c, 0, empty, api.OK)
		wantStep(t, c, 1, empty, api.OK)
		if n%2 == 0 {
			wantAlone(t, c, 2, Up, 2, ok(2))
		} else {
			wantAlone(t, c, 2, Down, 2, ok(1))
		}
		wantStep(t, c, 0, empty, api.OK)
		wantStep(t, c, 1, empty, api.OK)
	}
	wantStep(t, c, 1, empty, api.OK)
	wantStep(t, c, 1, ok(0), api.OK)
	wantStep(t, c, 0, empty, api.OK)
	wantStep(t, c, 0, ok(1), api.OK)
}

func TestWrongArguments(t *testing.T) {
	c := made(t, 2)
	wantStart(t, c, 0, Up, api.OK)
	wantStep(t, c, 0, empty, api.OK)
	wantStart(t, c, 1, Read, api.OK)
	for _, who := range outside {
		for _, op := range append([]byte{Up, Down, Read}, noCalls...) {
			wantStart(t, c, who, op, api.ErrArg)
		}
		wantStep(t, c, who, empty, api.ErrArg)
		wantPending(t, c, who, false)
	}
	for _, op := range noCalls {
		for who := range 3 {
			wantStart(t, c, who, op, api.ErrArg)
		}
	}
	for _, op := range []byte{Up, Down, Read} {
		wantStart(t, c, 0, op, api.ErrBusy)
		wantStart(t, c, 1, op, api.ErrBusy)
	}
	wantStep(t, c, 2, empty, api.ErrNone)
	wantState(t, c, 0, 1)
	// What was refused has changed neither call.
	wantStep(t, c, 0, ok(1), api.OK)
	wantStep(t, c, 1, ok(1), api.OK)
	wantStep(t, c, 0, empty, api.ErrNone)
	wantStep(t, c, 1, empty, api.ErrNone)
	wantState(t, c, 1, 3)
}

func TestNil(t *testing.T) {
	var c *Counter
	for _, op := range []byte{Up, Down, Read} {
		wantStart(t, c, 0, op, api.ErrNone)
		wantStart(t, c, 63, op, api.ErrNone)
		wantStart(t, c, 64, op, api.ErrArg)
		wantStart(t, c, -1, op, api.ErrArg)
	}
	for _, op := range noCalls {
		wantStart(t, c, 0, op, api.ErrArg)
	}
	wantStep(t, c, 0, empty, api.ErrNone)
	wantStep(t, c, 63, empty, api.ErrNone)
	for _, who := range append([]int{0, 63}, outside...) {
		wantPending(t, c, who, false)
	}
	for _, who := range outside {
		wantStep(t, c, who, empty, api.ErrArg)
	}
	wantState(t, c, 0, 0)
}

// P12.2

func TestPending(t *testing.T) {
	c := made(t, 64)
	for who := range 64 {
		wantPending(t, c, who, false)
		wantStart(t, c, who, Up, api.OK)
		for other := range 64 {
			wantPending(t, c, other, other <= who)
		}
	}
	wantState(t, c, 0, 0)
	for who := range 64 {
		wantStep(t, c, who, empty, api.OK)
		wantPending(t, c, who, true)
		wantState(t, c, 0, who+1)
	}
	wantStep(t, c, 63, ok(1), api.OK)
	wantPending(t, c, 63, false)
	wantState(t, c, 1, 65)
	for who := range 63 {
		wantStep(t, c, who, empty, api.OK)
		wantPending(t, c, who, true)
	}
	wantState(t, c, 1, 128)
	for who := range 63 {
		wantStep(t, c, who, empty, api.OK)
		wantStep(t, c, who, ok(int64(who)+2), api.OK)
		for other := range 63 {
			wantPending(t, c, other, other > who)
		}
	}
	wantState(t, c, 64, 254)
	wantAlone(t, c, 0, Up, 1, full)
}

// P12.1, P12.3

// watched is a counter beside what the chapter's words make of its calls.
type watched struct {
	*Counter
	limit int64
	value int64
	swaps int // how many were done
	steps int
	work  map[int]*work
}

// work is a pending call, with what it has read.
type work struct {
	op     byte
	loaded bool
	read   int64
	swaps  int // how many were done behind its Load
}

func watch(t *testing.T, limit int64) *watched {
	t.Helper()
	return &watched{Counter: made(t, limit), limit: limit, work: map[int]*work{}}
}

func (w *watched) start(t *testing.T, who int, op byte) {
	t.Helper()
	want := api.OK
	switch {
	case who < 0 || who >= 64 || op == 0 || op > 3:
		want = api.ErrArg
	case w.work[who] != nil:
		want = api.ErrBusy
	default:
		w.work[who] = &work{op: op}
	}
	wantStart(t, w.Counter, who, op, want)
	w.hold(t)
}

func (w *watched) step(t *testing.T, who int) {
	t.Helper()
	want, fault := empty, api.OK
	at := w.work[who]
	switch {
	case who < 0 || who >= 64:
		fault = api.ErrArg
	case at == nil:
		fault = api.ErrNone
	case at.loaded:
		want = w.swap(t, at)
	default:
		want = w.load(at)
	}
	if fault == api.OK {
		w.steps++
	}
	if want.Done {
		delete(w.work, who)
	}
	wantStep(t, w.Counter, who, want, fault)
	w.hold(t)
}

func (w *watched) load(at *work) Result {
	switch {
	case at.op == 3:
		return ok(w.value)
	case at.op == 1 && w.value == w.limit:
		return full
	case at.op == 2 && w.value == 0:
		return below
	}
	at.loaded, at.read, at.swaps = true, w.value, w.swaps
	return empty
}

func (w *watched) swap(t *testing.T, at *work) Result {
	t.Helper()
	if w.value != at.read {
		if w.swaps == at.swaps {
			t.Error("a Swap wasn't done, and none of another call was since the Load")
		}
		at.loaded = false
		return empty
	}
	w.swaps++
	w.value++
	if at.op == 2 {
		w.value -= 2
	}
	return ok(w.value)
}

// hold holds what the counter tells against what was told.
func (w *watched) hold(t *testing.T) {
	t.Helper()
	if w.value < 0 || w.value > w.limit {
		t.Errorf("the counter is at %d of %d", w.value, w.limit)
	}
	wantState(t, w.Counter, w.value, w.steps)
	for _, who := range []int{-1, 0, 1, 2, 3, 8, 9, 62, 63, 64} {
		if w.Pending(who) != (w.work[who] != nil) {
			t.Errorf("Pending(%d) = %v", who, w.Pending(who))
		}
	}
}

func TestByChance(t *testing.T) {
	rnd := rand.New(rand.NewSource(12))
	limits := []int64{0, 1, 1, 2, 3, 5, 64, api.Max}
	for round := range 200 {
		w := watch(t, limits[round%len(limits)])
		workers := []int{2, 3, 8, 66}[rnd.Intn(4)]
		for range 400 {
			who := rnd.Intn(workers)
			switch rnd.Intn(12) {
			case 0, 1, 2, 3:
				w.start(t, who, byte(1+rnd.Intn(3)))
			case 4:
				w.start(t, who, byte(rnd.Intn(256)))
			case 5:
				w.step(t, rnd.Intn(68)-2)
			default:
				w.step(t, who)
			}
			if t.Failed() {
				t.Fatal("round", round)
			}
		}
	}
}

// order is what a look at all orders finds: for each state it runs the order of
// steps that leads there anew, because a counter can't be copied.
type order struct {
	limit  int64
	before int64 // Ups that were done at the beginning
	ops    []byte
	seen   int
}

func (o *order) run(t *testing.T, picks []int) *watched {
	t.Helper()
	w := watch(t, o.limit)
	for range o.before {
		w.start(t, 9, Up)
		w.step(t, 9)
		w.step(t, 9)
	}
	for who, op := range o.ops {
		w.start(t, who, op)
	}
	for _, who := range picks {
		w.step(t, who)
	}
	return w
}

// look goes on from picks in every way, and from each state lets every call that
// is pending, and a new one, go on alone to its end.
func (o *order) look(t *testing.T, picks []int) {
	t.Helper()
	o.seen++
	for who := range o.ops {
		w := o.run(t, picks)
		if t.Failed() {
			t.Fatal(o.limit, o.before, o.ops, picks)
		}
		if !w.Pending(who) {
			continue
		}
		// One that has read what has changed since has that Swap to do yet.
		most := 2
		if w.work[who].loaded {
			most = 3
		}
		o.alone(t, w, who, most)
		o.look(t, append(slices.Clip(picks), who))
	}
	for op := Up; op <= Read; op++ {
		w := o.run(t, picks)
		w.start(t, 8, op)
		o.alone(t, w, 8, 2)
	}
}

func (o *order) alone(t *testing.T, w *watched, who, most int) {
	t.Helper()
	for n := 0; w.Pending(who); n++ {
		if n == most {
			t.Fatal("not within its steps alone:", o.limit, o.before, o.ops, who)
		}
		w.step(t, who)
	}
}

// In every order of three calls, of all kinds, at and about both ends.
func TestAllOrders(t *testing.T) {
	seen := 0
	// Who does which of them makes no difference: that all workers are alike other tests show.
	calls := []string{"\x01\x01\x01", "\x01\x01\x02", "\x01\x01\x03", "\x01\x02\x02", "\x01\x02\x03", "\x01\x03\x03", "\x02\x02\x02", "\x02\x02\x03", "\x02\x03\x03", "\x03\x03\x03"}
	for limit := range int64(4) {
		for before := range limit + 1 {
			for _, ops := range calls {
				o := &order{limit: limit, before: before, ops: []byte(ops)}
				o.look(t, nil)
				seen += o.seen
			}
		}
	}
	if seen < 10000 {
		t.Error("no more states than", seen)
	}
}

// Many calls at the limit: no more of them return OK than there is room.
func TestNeverAboveTheLimit(t *testing.T) {
	rnd := rand.New(rand.NewSource(121))
	for limit := range int64(66) {
		w := watch(t, limit)
		for who := range 64 {
			w.start(t, who, Up)
		}
		for len(w.work) > 0 && !t.Failed() {
			w.step(t, rnd.Intn(64))
		}
		if want := min(limit, 64); w.Value() != want {
			t.Errorf("limit %d: Value = %d", limit, w.Value())
		}
	}
}

// A counter keeps nothing of calls that have returned.
func TestCallsTakeNoMemory(t *testing.T) {
	c := made(t, api.Max)
	grown := testing.AllocsPerRun(10, func() {
		for range 20000 {
			c.Start(1, Up)
			c.Step(1)
			c.Step(1)
		}
	})
	if grown != 0 {
		t.Errorf("%v allocations", grown)
	}
}
