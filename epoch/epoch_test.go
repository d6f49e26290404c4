package epoch

import (
	"math"
	"slices"
	"testing"

	"spigot/api"
)

// outside are numbers that are no worker; noCalls are none of the five calls.
var (
	outside = []int{-1, -2, 64, 65, 4096, 1 << 32, math.MaxInt, math.MinInt}
	calls   = []byte{Pin, Unpin, Retire, Advance, Collect}
	noCalls = []byte{0, 6, 7, 128, 129, 255}
)

var (
	empty = Result{}
	busy  = Result{Done: true, E: api.ErrBusy}
)

func ok(n int64) Result { return Result{Done: true, N: n} }

func taken(things ...int) Result {
	return Result{Done: true, N: int64(len(things)), Things: things}
}

func isSame(a, b Result) bool {
	return a.Done == b.Done && a.E == b.E && a.N == b.N && slices.Equal(a.Things, b.Things)
}

// made: New, which must not fail.
func made(t *testing.T, workers int) *Epochs {
	t.Helper()
	x, fault := New(workers)
	if x == nil || fault != api.OK {
		t.Fatalf("New(%d) = %v, %d", workers, x, fault)
	}
	return x
}

func wantStart(t *testing.T, x *Epochs, who int, op byte, thing int, want api.Errno) {
	t.Helper()
	if got := x.Start(who, op, thing); got != want {
		t.Errorf("Start(%d, %d, %d) = %d, not %d", who, op, thing, got, want)
	}
}

func wantStep(t *testing.T, x *Epochs, who int, want Result, fault api.Errno) {
	t.Helper()
	if got, gotFault := x.Step(who); !isSame(got, want) || gotFault != fault {
		t.Errorf("Step(%d) = %v, %d, not %v, %d", who, got, gotFault, want, fault)
	}
}

// wantSteps steps a call that is pending: only with the last step it returns.
func wantSteps(t *testing.T, x *Epochs, who int, steps int, want Result) {
	t.Helper()
	for range steps - 1 {
		wantStep(t, x, who, empty, api.OK)
		wantPending(t, x, who, true)
	}
	wantStep(t, x, who, want, api.OK)
	wantPending(t, x, who, false)
}

// wantAlone begins a call and steps it, others standing still, till it returns.
func wantAlone(t *testing.T, x *Epochs, who int, op byte, thing, steps int, want Result) {
	t.Helper()
	wantStart(t, x, who, op, thing, api.OK)
	wantSteps(t, x, who, steps, want)
}

func wantPending(t *testing.T, x *Epochs, who int, want bool) {
	t.Helper()
	if got := x.Pending(who); got != want {
		t.Errorf("Pending(%d) = %v, not %v", who, got, want)
	}
}

func wantPinned(t *testing.T, x *Epochs, who int, want bool) {
	t.Helper()
	if got := x.Pinned(who); got != want {
		t.Errorf("Pinned(%d) = %v, not %v", who, got, want)
	}
}

func wantEpoch(t *testing.T, x *Epochs, want int64) {
	t.Helper()
	if got := x.Epoch(); got != want {
		t.Errorf("Epoch = %d, not %d", got, want)
	}
}

func wantHeld(t *testing.T, x *Epochs, who int, want ...int) {
	t.Helper()
	if got := x.Held(who); !slices.Equal(got, want) {
		t.Errorf("Held(%d) = %v, not %v", who, got, want)
	}
}

// advance moves the epoch on, so many times; nobody is pinned.
func advance(t *testing.T, x *Epochs, who, workers, times int) {
	t.Helper()
	for range times {
		wantAlone(t, x, who, Advance, 0, workers+2, ok(x.Epoch()+1))
	}
}

// P13.1

func TestNew(t *testing.T) {
	for _, workers := range []int{1, 2, 3, 31, 63, 64} {
		x := made(t, workers)
		wantEpoch(t, x, 0)
		for who := range workers {
			wantPending(t, x, who, false)
			wantPinned(t, x, who, false)
			wantHeld(t, x, who)
			wantStep(t, x, who, empty, api.ErrNone)
			wantStart(t, x, who, Advance, 0, api.OK)
		}
		for _, who := range append([]int{workers, workers + 1}, outside...) {
			wantStep(t, x, who, empty, api.ErrArg)
			for _, op := range append(noCalls, calls...) {
				wantStart(t, x, who, op, 0, api.ErrArg)
			}
		}
		wantEpoch(t, x, 0)
	}
	for _, workers := range []int{0, -1, -64, 65, 66, 4096, 1 << 32, math.MaxInt, math.MinInt} {
		if x, fault := New(workers); x != nil || fault != api.ErrArg {
			t.Errorf("New(%d) = %v, %d", workers, x, fault)
		}
	}
	x, y := made(t, 2), made(t, 2)
	wantAlone(t, x, 0, Pin, 0, 3, ok(0))
	wantAlone(t, x, 0, Retire, 5, 1, ok(0))
	wantAlone(t, x, 1, Advance, 0, 4, ok(1))
	wantPinned(t, y, 0, false)
	wantHeld(t, y, 0)
	wantEpoch(t, y, 0)
}

func TestExampleRetire(t *testing.T) {
	x := made(t, 2)
	wantAlone(t, x, 0, Retire, 7, 1, ok(0))
	wantAlone(t, x, 1, Advance, 0, 4, ok(1))
	wantAlone(t, x, 0, Collect, 0, 1, taken())
	wantAlone(t, x, 1, Advance, 0, 4, ok(2))
	wantAlone(t, x, 0, Collect, 0, 1, taken(7))
	wantHeld(t, x, 0)
}

func TestExamplePin(t *testing.T) {
	x := made(t, 2)
	wantAlone(t, x, 0, Pin, 0, 3, ok(0))
	wantAlone(t, x, 1, Advance, 0, 4, ok(1))
	wantAlone(t, x, 1, Advance, 0, 2, busy)
	wantEpoch(t, x, 1)
	wantAlone(t, x, 0, Unpin, 0, 1, ok(0))
	wantAlone(t, x, 1, Advance, 0, 4, ok(2))
	wantEpoch(t, x, 2)
}

func TestExampleErrors(t *testing.T) {
	x := made(t, 2)
	wantAlone(t, x, 0, Pin, 0, 3, ok(0))
	wantStart(t, x, 0, Pin, 0, api.ErrExists)
	wantStart(t, x, 1, Unpin, 0, api.ErrNone)
	for _, op := range calls {
		wantStart(t, x, 2, op, 0, api.ErrArg)
	}
	if y, fault := New(0); y != nil || fault != api.ErrArg {
		t.Errorf("New(0) = %v, %d", y, fault)
	}
}

func TestPinAndUnpin(t *testing.T) {
	for _, workers := range []int{1, 2, 64} {
		x := made(t, workers)
		for e := range int64(5) {
			for _, who := range []int{0, workers / 2, workers - 1} {
				wantAlone(t, x, who, Pin, 99, 3, ok(e))
				wantPinned(t, x, who, true)
				wantAlone(t, x, who, Unpin, 99, 1, ok(0))
				wantPinned(t, x, who, false)
			}
			advance(t, x, workers-1, workers, 1)
		}
	}
}

// A Pin that finds that the epoch has moved tells the new one, as often as it
// moves; with its own mark in the epoch it doesn't hinder the next move.
func TestPinFollowsTheEpoch(t *testing.T) {
	x := made(t, 2)
	wantStart(t, x, 0, Pin, 0, api.OK)
	wantStep(t, x, 0, empty, api.OK)
	for e := range int64(10) {
		wantStep(t, x, 0, empty, api.OK)
		wantAlone(t, x, 1, Advance, 0, 4, ok(e+1))
		wantAlone(t, x, 1, Advance, 0, 2, busy)
		wantStep(t, x, 0, empty, api.OK)
		wantPinned(t, x, 0, false)
	}
	wantSteps(t, x, 0, 2, ok(10))
	wantPinned(t, x, 0, true)
	wantAlone(t, x, 1, Advance, 0, 4, ok(11))
	wantAlone(t, x, 1, Advance, 0, 2, busy)
	wantAlone(t, x, 0, Unpin, 0, 1, ok(0))
	wantAlone(t, x, 1, Advance, 0, 4, ok(12))
}

// The epoch moves between the Load and the Swap of a Pin, where there is no mark.
func TestPinBehindTheEpoch(t *testing.T) {
	x := made(t, 2)
	wantStart(t, x, 0, Pin, 0, api.OK)
	wantStep(t, x, 0, empty, api.OK)
	advance(t, x, 1, 2, 3)
	wantStep(t, x, 0, empty, api.OK)
	wantAlone(t, x, 1, Advance, 0, 2, busy)
	wantStep(t, x, 0, empty, api.OK)
	wantAlone(t, x, 1, Advance, 0, 2, busy)
	wantStep(t, x, 0, empty, api.OK)
	wantSteps(t, x, 0, 1, ok(3))
	wantAlone(t, x, 1, Advance, 0, 4, ok(4))
	wantAlone(t, x, 1, Advance, 0, 2, busy)
}

// A Pin that was left in the midst hinders as its word says; none ahead of its
// Swap.
func TestPinLeftInTheMidst(t *testing.T) {
	x := made(t, 3)
	wantStart(t, x, 1, Pin, 0, api.OK)
	advance(t, x, 0, 3, 2)
	wantStep(t, x, 1, empty, api.OK)
	advance(t, x, 0, 3, 2)
	wantStep(t, x, 1, empty, api.OK)
	for range 3 {
		wantAlone(t, x, 0, Advance, 0, 3, busy)
	}
	wantPinned(t, x, 1, false)
	wantEpoch(t, x, 4)
}

// Each worker's word is asked for in turn, its own among them; in the epoch's own
// number it hinders nobody.
func TestAdvanceAsksEachInTurn(t *testing.T) {
	const workers = 64
	for pinned := range workers {
		for _, who := range []int{0, pinned, 63} {
			x := made(t, workers)
			advance(t, x, who, workers, 1)
			wantAlone(t, x, pinned, Pin, 0, 3, ok(1))
			wantAlone(t, x, who, Advance, 0, workers+2, ok(2))
			wantAlone(t, x, who, Advance, 0, pinned+2, busy)
			wantAlone(t, x, pinned, Unpin, 0, 1, ok(0))
			wantAlone(t, x, who, Advance, 0, workers+2, ok(3))
		}
	}
}

func TestAdvanceOfMany(t *testing.T) {
	x := made(t, 5)
	for who := range 4 {
		wantStart(t, x, who, Advance, 0, api.OK)
		for range 6 {
			wantStep(t, x, who, empty, api.OK)
		}
	}
	wantEpoch(t, x, 0)
	wantSteps(t, x, 2, 1, ok(1))
	wantSteps(t, x, 0, 1, ok(0))
	wantEpoch(t, x, 1)
	wantAlone(t, x, 4, Advance, 0, 7, ok(2))
	wantSteps(t, x, 3, 1, ok(0))
	wantSteps(t, x, 1, 1, ok(0))
	wantEpoch(t, x, 2)
}

// To an Advance that has read an older epoch, one that is pinned in the newer one
// is in its way.
func TestAdvanceBehindTheEpoch(t *testing.T) {
	x := made(t, 3)
	wantStart(t, x, 0, Advance, 0, api.OK)
	wantStep(t, x, 0, empty, api.OK)
	wantAlone(t, x, 1, Advance, 0, 5, ok(1))
	wantAlone(t, x, 2, Pin, 0, 3, ok(1))
	wantSteps(t, x, 0, 3, busy)
	wantEpoch(t, x, 1)
}

// What was read of a word ahead is not asked for again.
func TestAdvanceHasLooked(t *testing.T) {
	x := made(t, 2)
	wantStart(t, x, 1, Advance, 0, api.OK)
	wantStep(t, x, 1, empty, api.OK)
	wantStep(t, x, 1, empty, api.OK)
	wantAlone(t, x, 0, Pin, 0, 3, ok(0))
	wantSteps(t, x, 1, 2, ok(1))
	wantPinned(t, x, 0, true)
}

func TestRetireAndCollect(t *testing.T) {
	x := made(t, 2)
	things := []int{3, -1, 3, 0, math.MaxInt, math.MinInt, 8}
	for e, thing := range things {
		wantAlone(t, x, 0, Retire, thing, 1, ok(int64(e)))
		wantAlone(t, x, 0, Retire, 100+e, 1, ok(int64(e)))
		advance(t, x, 1, 2, 1)
	}
	// At the epoch 7 what was given up at 6 is kept.
	wantAlone(t, x, 1, Collect, 0, 1, taken())
	wantAlone(t, x, 0, Collect, 0, 1, taken(3, 100, -1, 101, 3, 102, 0, 103, math.MaxInt, 104, math.MinInt, 105))
	wantHeld(t, x, 0, 8, 106)
	wantAlone(t, x, 0, Retire, 9, 1, ok(7))
	wantAlone(t, x, 0, Collect, 0, 1, taken())
	advance(t, x, 1, 2, 1)
	wantAlone(t, x, 0, Collect, 0, 1, taken(8, 106))
	wantHeld(t, x, 0, 9)
	advance(t, x, 1, 2, 1)
	wantAlone(t, x, 0, Collect, 0, 1, taken(9))
	wantAlone(t, x, 0, Collect, 0, 1, taken())
	wantHeld(t, x, 0)
}

// At each epoch what lies two behind it is taken, and nothing that lies nearer.
func TestCollectAtEachEpoch(t *testing.T) {
	x := made(t, 1)
	for e := range 40 {
		wantAlone(t, x, 0, Retire, e, 1, ok(int64(e)))
		if e < 2 {
			wantAlone(t, x, 0, Collect, 0, 1, taken())
		} else {
			wantAlone(t, x, 0, Collect, 0, 1, taken(e-2))
			wantHeld(t, x, 0, e-1, e)
		}
		advance(t, x, 0, 1, 1)
	}
}

// Each worker has a list of its own, and collects that alone.
func TestListsOfEach(t *testing.T) {
	x := made(t, 64)
	for who := range 64 {
		wantAlone(t, x, who, Retire, who, 1, ok(0))
		wantAlone(t, x, who, Retire, -who, 1, ok(0))
	}
	advance(t, x, 5, 64, 2)
	for who := range 64 {
		wantHeld(t, x, who, who, -who)
		wantAlone(t, x, who, Collect, 77, 1, taken(who, -who))
		wantHeld(t, x, who)
	}
}

// What counts is the epoch at the step, not that at the Start.
func TestStartReadsNothing(t *testing.T) {
	x := made(t, 4)
	wantAlone(t, x, 1, Retire, 6, 1, ok(0))
	wantStart(t, x, 0, Retire, 5, api.OK)
	wantStart(t, x, 1, Collect, 0, api.OK)
	wantStart(t, x, 2, Pin, 0, api.OK)
	wantHeld(t, x, 0)
	advance(t, x, 3, 4, 2)
	wantSteps(t, x, 0, 1, ok(2))
	wantSteps(t, x, 1, 1, taken(6))
	wantSteps(t, x, 2, 3, ok(2))
}

// Pinned or not, a worker may do all else.
func TestPinnedOnesMayDoAllElse(t *testing.T) {
	x := made(t, 2)
	wantAlone(t, x, 0, Pin, 0, 3, ok(0))
	wantAlone(t, x, 0, Retire, 1, 1, ok(0))
	wantAlone(t, x, 0, Advance, 0, 4, ok(1))
	wantAlone(t, x, 0, Advance, 0, 2, busy)
	wantAlone(t, x, 0, Collect, 0, 1, taken())
	wantPinned(t, x, 0, true)
	wantAlone(t, x, 0, Unpin, 0, 1, ok(0))
	advance(t, x, 0, 2, 1)
	wantAlone(t, x, 0, Collect, 0, 1, taken(1))
}

func TestRetireWhereThereIsNoRoom(t *testing.T) {
	x := made(t, 2)
	all := make([]int, api.MaxSamples)
	for n := range all {
		all[n] = 7 * n
		if n == 1000 {
			advance(t, x, 1, 2, 1)
		}
		wantAlone(t, x, 0, Retire, 7*n, 1, ok(x.Epoch()))
	}
	wantStart(t, x, 0, Retire, 1, api.ErrFull)
	wantPending(t, x, 0, false)
	wantStep(t, x, 0, empty, api.ErrNone)
	wantHeld(t, x, 0, all...)
	wantAlone(t, x, 1, Retire, 1, 1, ok(1))
	// All but Retire goes on.
	wantAlone(t, x, 0, Pin, 0, 3, ok(1))
	wantAlone(t, x, 0, Unpin, 0, 1, ok(0))
	wantAlone(t, x, 0, Collect, 0, 1, taken())
	wantStart(t, x, 0, Retire, 1, api.ErrFull)
	advance(t, x, 0, 2, 1)
	wantStart(t, x, 0, Collect, 0, api.OK)
	wantStart(t, x, 0, Retire, 1, api.ErrBusy)
	wantSteps(t, x, 0, 1, taken(all[:1000]...))
	wantHeld(t, x, 0, all[1000:]...)
	for n := range 1000 {
		wantAlone(t, x, 0, Retire, n, 1, ok(2))
	}
	wantStart(t, x, 0, Retire, 1, api.ErrFull)
	advance(t, x, 0, 2, 1)
	wantAlone(t, x, 0, Collect, 0, 1, taken(all[1000:]...))
	wantAlone(t, x, 0, Retire, 5, 1, ok(3))
}

func TestWrongArguments(t *testing.T) {
	x := made(t, 3)
	wantStart(t, x, 0, Pin, 0, api.OK)
	wantStart(t, x, 1, Retire, 4, api.OK)
	for _, who := range append([]int{3, 4, 63}, outside...) {
		for _, op := range append(noCalls, calls...) {
			wantStart(t, x, who, op, 0, api.ErrArg)
		}
		wantStep(t, x, who, empty, api.ErrArg)
	}
	for _, op := range noCalls {
		for who := range 3 {
			wantStart(t, x, who, op, 0, api.ErrArg)
		}
	}
	// Of one that has a pending call it is not asked whether it is pinned.
	for _, op := range calls {
		wantStart(t, x, 0, op, 9, api.ErrBusy)
		wantStart(t, x, 1, op, 9, api.ErrBusy)
	}
	wantStart(t, x, 2, Unpin, 0, api.ErrNone)
	wantPending(t, x, 2, false)
	wantStep(t, x, 2, empty, api.ErrNone)
	// What was refused has changed nothing.
	wantSteps(t, x, 0, 3, ok(0))
	wantSteps(t, x, 1, 1, ok(0))
	wantHeld(t, x, 1, 4)
	wantStep(t, x, 0, empty, api.ErrNone)
	wantStart(t, x, 0, Pin, 0, api.ErrExists)
	wantPending(t, x, 0, false)
	wantStart(t, x, 0, Unpin, 0, api.OK)
	for _, op := range calls {
		wantStart(t, x, 0, op, 9, api.ErrBusy)
	}
	wantSteps(t, x, 0, 1, ok(0))
	wantStart(t, x, 0, Unpin, 0, api.ErrNone)
}

// P13.2

func TestNil(t *testing.T) {
	var x *Epochs
	for _, who := range append([]int{0, 1, 63}, outside...) {
		for _, op := range append(noCalls, calls...) {
			wantStart(t, x, who, op, 0, api.ErrArg)
		}
		wantStep(t, x, who, empty, api.ErrArg)
		wantPending(t, x, who, false)
		wantPinned(t, x, who, false)
		wantHeld(t, x, who)
	}
	wantEpoch(t, x, 0)
}

func TestOfAnyNumber(t *testing.T) {
	x := made(t, 64)
	advance(t, x, 0, 64, 3)
	for who := range 64 {
		wantAlone(t, x, who, Retire, who, 1, ok(3))
		wantAlone(t, x, who, Pin, 0, 3, ok(3))
		wantStart(t, x, who, Advance, 0, api.OK)
		for other := range 64 {
			wantPending(t, x, other, other <= who)
			wantPinned(t, x, other, other <= who)
			if len(x.Held(other)) > 0 != (other <= who) {
				t.Errorf("Held(%d) = %v", other, x.Held(other))
			}
		}
	}
	for _, who := range outside {
		wantPending(t, x, who, false)
		wantPinned(t, x, who, false)
		wantHeld(t, x, who)
	}
	few := made(t, 2)
	for _, who := range append([]int{2, 3, 63}, outside...) {
		wantPending(t, few, who, false)
		wantPinned(t, few, who, false)
		wantHeld(t, few, who)
	}
}

// A worker is pinned from the step with which its Pin returns to the one with
// which its Unpin does.
func TestPinnedFromStepToStep(t *testing.T) {
	x := made(t, 2)
	for range 3 {
		wantStart(t, x, 0, Pin, 0, api.OK)
		wantPinned(t, x, 0, false)
		for range 2 {
			wantStep(t, x, 0, empty, api.OK)
			wantPinned(t, x, 0, false)
		}
		wantStep(t, x, 0, ok(x.Epoch()), api.OK)
		wantPinned(t, x, 0, true)
		wantPinned(t, x, 1, false)
		wantStart(t, x, 0, Unpin, 0, api.OK)
		wantPinned(t, x, 0, true)
		wantStep(t, x, 0, ok(0), api.OK)
		wantPinned(t, x, 0, false)
		advance(t, x, 1, 2, 1)
	}
}

// An answer is new memory, spare room too.
func TestAnswersShareNothing(t *testing.T) {
	x := made(t, 1)
	for n := range 5 {
		wantAlone(t, x, 0, Retire, n, 1, ok(0))
	}
	advance(t, x, 0, 1, 1)
	wantAlone(t, x, 0, Retire, 5, 1, ok(1))
	spoil := func(list []int) {
		for n := range cap(list) {
			list[:cap(list)][n] = -9
		}
	}
	before, other := x.Held(0), x.Held(0)
	spoil(before)
	if want := []int{0, 1, 2, 3, 4, 5}; !slices.Equal(other, want) {
		t.Error("a list of another answer has changed:", other)
	}
	wantHeld(t, x, 0, 0, 1, 2, 3, 4, 5)
	advance(t, x, 0, 1, 1)
	wantStart(t, x, 0, Collect, 0, api.OK)
	r, _ := x.Step(0)
	held := x.Held(0)
	spoil(r.Things)
	wantHeld(t, x, 0, 5)
	if !slices.Equal(held, []int{5}) {
		t.Error("a list of another answer has changed:", held)
	}
	wantAlone(t, x, 0, Retire, 6, 1, ok(2))
	wantHeld(t, x, 0, 5, 6)
	kept := slices.Clone(other)
	for n := range 9 {
		wantAlone(t, x, 0, Retire, 10+n, 1, ok(2))
	}
	if !slices.Equal(other, kept) {
		t.Error("an earlier answer has changed:", other)
	}
}
