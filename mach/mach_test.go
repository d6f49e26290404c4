package mach

import (
	"math"
	"math/rand"
	"runtime"
	"slices"
	"sync"
	"testing"

	"spigot/api"
)

// touched is what a Mach and a Real do both.
type touched interface {
	Load(who, word int) (uint64, api.Errno)
	Swap(who, word int, old, new uint64) (bool, api.Errno)
	Clock(who int) (int64, api.Errno)
	Tick(n int64) (int64, api.Errno)
}

// outside are numbers that are no worker; of words one is none where it isn't below the size.
var outside = []int{-1, -2, 64, 65, 4096, 1 << 32, math.MaxInt, math.MinInt, math.MinInt + 1}

// noTicks are numbers that are no ticks.
var noTicks = []int64{-1, -2, -api.Max, math.MinInt64, api.Max + 1, math.MaxInt64}

// each runs a test with a Mach and with a Real of so many words.
func each(t *testing.T, words int, test func(t *testing.T, w touched)) {
	t.Run("Mach", func(t *testing.T) { test(t, made(t, words)) })
	t.Run("Real", func(t *testing.T) { test(t, plain(t, words)) })
}

// made: New, which must not fail; plain: Plain, likewise.
func made(t *testing.T, words int) *Mach {
	t.Helper()
	m, fault := New(words)
	if m == nil || fault != api.OK {
		t.Fatalf("New(%d) = %v, %d", words, m, fault)
	}
	return m
}

func plain(t *testing.T, words int) *Real {
	t.Helper()
	r, fault := Plain(words)
	if r == nil || fault != api.OK {
		t.Fatalf("Plain(%d) = %v, %d", words, r, fault)
	}
	return r
}

func wantLoad(t *testing.T, w touched, who, word int, want uint64, fault api.Errno) {
	t.Helper()
	if got, gotFault := w.Load(who, word); got != want || gotFault != fault {
		t.Errorf("%T: Load(%d, %d) = %d, %d, not %d, %d", w, who, word, got, gotFault, want, fault)
	}
}

func wantSwap(t *testing.T, w touched, who, word int, old, new uint64, want bool, fault api.Errno) {
	t.Helper()
	if got, gotFault := w.Swap(who, word, old, new); got != want || gotFault != fault {
		t.Errorf("%T: Swap(%d, %d, %d, %d) = %v, %d, not %v, %d", w, who, word, old, new, got, gotFault, want, fault)
	}
}

func wantClock(t *testing.T, w touched, who int, want int64, fault api.Errno) {
	t.Helper()
	if got, gotFault := w.Clock(who); got != want || gotFault != fault {
		t.Errorf("%T: Clock(%d) = %d, %d, not %d, %d", w, who, got, gotFault, want, fault)
	}
}

func wantTick(t *testing.T, w touched, n, want int64, fault api.Errno) {
	t.Helper()
	if got, gotFault := w.Tick(n); got != want || gotFault != fault {
		t.Errorf("%T: Tick(%d) = %d, %d, not %d, %d", w, n, got, gotFault, want, fault)
	}
}

func wantWord(t *testing.T, m *Mach, word int, want uint64, fault api.Errno) {
	t.Helper()
	if got, gotFault := m.Word(word); got != want || gotFault != fault {
		t.Errorf("Word(%d) = %d, %d, not %d, %d", word, got, gotFault, want, fault)
	}
}

func wantCount(t *testing.T, m *Mach, want int) {
	t.Helper()
	if got := m.Count(); got != want {
		t.Errorf("Count = %d, not %d", got, want)
	}
}

func wantLast(t *testing.T, m *Mach, n int, want []Access, fault api.Errno) {
	t.Helper()
	if got, gotFault := m.Last(n); !slices.Equal(got, want) || gotFault != fault {
		t.Errorf("Last(%d) = %v, %d, not %v, %d", n, got, gotFault, want, fault)
	}
}

// P11.1

func TestSizes(t *testing.T) {
	for _, words := range []int{1, 2, 3, 64, 65, 4095, 4096} {
		m := made(t, words)
		wantCount(t, m, 0)
		wantLast(t, m, 64, nil, api.OK)
		for word := range words {
			wantWord(t, m, word, 0, api.OK)
		}
		wantWord(t, m, words, 0, api.ErrArg)
		each(t, words, func(t *testing.T, w touched) {
			wantClock(t, w, 0, 0, api.OK)
			for word := range words {
				wantLoad(t, w, 0, word, 0, api.OK)
			}
			wantLoad(t, w, 0, words, 0, api.ErrArg)
		})
	}
	for _, words := range []int{0, -1, -4096, 4097, 1 << 31, 1 << 40, math.MaxInt, math.MinInt} {
		if m, fault := New(words); m != nil || fault != api.ErrArg {
			t.Errorf("New(%d) = %v, %d", words, m, fault)
		}
		if r, fault := Plain(words); r != nil || fault != api.ErrArg {
			t.Errorf("Plain(%d) = %v, %d", words, r, fault)
		}
	}
}

func TestOneKnowsNothingOfAnother(t *testing.T) {
	m, n := made(t, 2), made(t, 2)
	r, s := plain(t, 2), plain(t, 2)
	for _, w := range []touched{m, r} {
		wantSwap(t, w, 0, 1, 0, 7, true, api.OK)
		wantTick(t, w, 5, 5, api.OK)
	}
	for _, w := range []touched{n, s} {
		wantLoad(t, w, 0, 1, 0, api.OK)
		wantClock(t, w, 0, 0, api.OK)
	}
	wantCount(t, m, 1)
	wantCount(t, n, 2)
}

// P11.2

func TestWords(t *testing.T) {
	each(t, 2, func(t *testing.T, w touched) {
		wantSwap(t, w, 0, 1, 0, 7, true, api.OK)
		wantLoad(t, w, 3, 1, 7, api.OK)
		wantSwap(t, w, 0, 1, 0, 9, false, api.OK)
		wantLoad(t, w, 3, 1, 7, api.OK)
		wantLoad(t, w, 3, 0, 0, api.OK)
		// The same for the same is done, and a word may come back to what it was.
		wantSwap(t, w, 0, 1, 7, 7, true, api.OK)
		wantSwap(t, w, 1, 1, 7, 0, true, api.OK)
		wantSwap(t, w, 2, 1, 0, 7, true, api.OK)
		wantSwap(t, w, 2, 1, 8, 7, false, api.OK)
		// All 64 bits of a word count.
		wantSwap(t, w, 0, 0, 0, math.MaxUint64, true, api.OK)
		wantLoad(t, w, 0, 0, math.MaxUint64, api.OK)
		wantSwap(t, w, 0, 0, math.MaxUint32, 1, false, api.OK)
		wantSwap(t, w, 0, 0, math.MaxInt64, 1, false, api.OK)
		wantSwap(t, w, 0, 0, math.MaxUint64-1, 1, false, api.OK)
		wantSwap(t, w, 0, 0, math.MaxUint64, 1<<63+1, true, api.OK)
		wantLoad(t, w, 0, 0, 1<<63+1, api.OK)
		wantSwap(t, w, 0, 0, 1, 5, false, api.OK)
	})
}

func TestEachWorkerAndWord(t *testing.T) {
	each(t, 4096, func(t *testing.T, w touched) {
		for word := range 4096 {
			wantSwap(t, w, word%64, word, 0, uint64(word)<<40+5, true, api.OK)
		}
		for word := range 4096 {
			wantLoad(t, w, 63-word%64, word, uint64(word)<<40+5, api.OK)
		}
		for who := range 64 {
			wantClock(t, w, who, 0, api.OK)
		}
	})
}

func TestClock(t *testing.T) {
	each(t, 1, func(t *testing.T, w touched) {
		wantTick(t, w, 0, 0, api.OK)
		wantTick(t, w, 5, 5, api.OK)
		wantClock(t, w, 0, 5, api.OK)
		wantTick(t, w, 0, 5, api.OK)
		wantTick(t, w, 7, 12, api.OK)
		wantClock(t, w, 63, 12, api.OK)
		wantTick(t, w, api.Max-13, api.Max-1, api.OK)
		wantTick(t, w, 1, api.Max, api.OK)
		wantTick(t, w, 0, api.Max, api.OK)
		wantTick(t, w, 1, api.Max, api.OK)
		for range 5 {
			wantTick(t, w, api.Max, api.Max, api.OK)
		}
		wantClock(t, w, 0, api.Max, api.OK)
		wantLoad(t, w, 0, 0, 0, api.OK)
	})
	each(t, 1, func(t *testing.T, w touched) {
		wantTick(t, w, 5, 5, api.OK)
		wantTick(t, w, api.Max, api.Max, api.OK)
		wantClock(t, w, 0, api.Max, api.OK)
	})
}

func TestWrongArguments(t *testing.T) {
	each(t, 64, func(t *testing.T, w touched) {
		wantSwap(t, w, 0, 63, 0, 7, true, api.OK)
		wantTick(t, w, 3, 3, api.OK)
		for _, n := range outside {
			wantLoad(t, w, n, 63, 0, api.ErrArg)
			wantLoad(t, w, 0, n, 0, api.ErrArg)
			wantLoad(t, w, n, n, 0, api.ErrArg)
			wantSwap(t, w, n, 63, 7, 8, false, api.ErrArg)
			wantSwap(t, w, 0, n, 7, 8, false, api.ErrArg)
			wantSwap(t, w, 0, n, 0, 8, false, api.ErrArg)
			wantClock(t, w, n, 0, api.ErrArg)
		}
		for _, n := range noTicks {
			wantTick(t, w, n, 0, api.ErrArg)
		}
		wantLoad(t, w, 0, 63, 7, api.OK)
		wantClock(t, w, 0, 3, api.OK)
		for word := range 63 {
			wantLoad(t, w, 0, word, 0, api.OK)
		}
	})
}

func TestNil(t *testing.T) {
	var m *Mach
	var r *Real
	for _, w := range []touched{m, r} {
		for _, word := range append([]int{0, 1, 63, 4095}, outside...) {
			wantLoad(t, w, 0, word, 0, api.ErrArg)
			wantSwap(t, w, 0, word, 0, 1, false, api.ErrArg)
			wantSwap(t, w, 64, word, 0, 1, false, api.ErrArg)
		}
		wantClock(t, w, 0, 0, api.ErrNone)
		wantClock(t, w, 63, 0, api.ErrNone)
		for _, who := range outside {
			wantClock(t, w, who, 0, api.ErrArg)
			wantLoad(t, w, who, 0, 0, api.ErrArg)
		}
		for _, n := range []int64{0, 1, api.Max} {
			wantTick(t, w, n, 0, api.ErrNone)
		}
		for _, n := range noTicks {
			wantTick(t, w, n, 0, api.ErrArg)
		}
	}
	for _, word := range append([]int{0, 1}, outside...) {
		wantWord(t, m, word, 0, api.ErrArg)
	}
	wantCount(t, m, 0)
	for _, n := range []int{0, 1, 64} {
		wantLast(t, m, n, nil, api.ErrNone)
	}
	for _, n := range []int{-1, 65, math.MaxInt, math.MinInt} {
		wantLast(t, m, n, nil, api.ErrArg)
	}
}

// P11.3

func TestExampleOfAccesses(t *testing.T) {
	m := made(t, 2)
	wantSwap(t, m, 0, 1, 0, 7, true, api.OK)
	wantLoad(t, m, 3, 1, 7, api.OK)
	wantSwap(t, m, 0, 1, 0, 9, false, api.OK)
	wantCount(t, m, 3)
	wantLast(t, m, 2, []Access{{3, Load, 1, 7, 0, true}, {0, Swap, 1, 0, 9, false}}, api.OK)
	wantLast(t, m, 1, []Access{{0, Swap, 1, 0, 9, false}}, api.OK)
	wantLast(t, m, 64, []Access{{0, Swap, 1, 0, 7, true}, {3, Load, 1, 7, 0, true}, {0, Swap, 1, 0, 9, false}}, api.OK)
	wantTick(t, m, 12, 12, api.OK)
	wantClock(t, m, 5, 12, api.OK)
	wantLast(t, m, 1, []Access{{5, Clock, 0, 12, 0, true}}, api.OK)
	wantCount(t, m, 4)
}

// What is no access, or is refused, is neither counted nor told.
func TestNoAccess(t *testing.T) {
	m := made(t, 2)
	wantSwap(t, m, 1, 1, 0, 7, true, api.OK)
	wantTick(t, m, 5, 5, api.OK)
	wantTick(t, m, -1, 0, api.ErrArg)
	wantWord(t, m, 1, 7, api.OK)
	wantWord(t, m, 2, 0, api.ErrArg)
	wantWord(t, m, -1, 0, api.ErrArg)
	wantLoad(t, m, 64, 0, 0, api.ErrArg)
	wantLoad(t, m, 0, 2, 0, api.ErrArg)
	wantSwap(t, m, 64, 1, 7, 8, false, api.ErrArg)
	wantSwap(t, m, 0, 2, 7, 8, false, api.ErrArg)
	wantClock(t, m, -1, 0, api.ErrArg)
	wantLast(t, m, 65, nil, api.ErrArg)
	wantCount(t, m, 1)
	wantLast(t, m, 64, []Access{{1, Swap, 1, 0, 7, true}}, api.OK)
}

func TestLast(t *testing.T) {
	m := made(t, 3)
	var all []Access
	for number := range 300 {
		for _, n := range []int{-1, -64, 65, 66, 300, math.MaxInt, math.MinInt} {
			wantLast(t, m, n, nil, api.ErrArg)
		}
		for n := range 65 {
			wantLast(t, m, n, all[max(0, len(all)-n):], api.OK)
		}
		wantCount(t, m, number)
		who, word, old := number%64, number%3, uint64(number+1)
		wantSwap(t, m, who, word, old, 9, false, api.OK)
		all = append(all, Access{who, Swap, word, old, 9, false})
		if t.Failed() {
			return
		}
	}
}

func TestLastIsNewMemory(t *testing.T) {
	m := made(t, 1)
	for range 70 {
		m.Load(1, 0)
	}
	x, _ := m.Last(64)
	y, _ := m.Last(10)
	for _, list := range [][]Access{x[:cap(x)], y[:cap(y)]} {
		for i := range list {
			list[i] = Access{Who: 9, Word: 9}
		}
	}
	wantLast(t, m, 64, slices.Repeat([]Access{{1, Load, 0, 0, 0, true}}, 64), api.OK)
	z, _ := m.Last(3)
	m.Clock(2)
	if !slices.Equal(z, slices.Repeat([]Access{{1, Load, 0, 0, 0, true}}, 3)) {
		t.Error("an answer changed behind its call:", z)
	}
}

// An access keeps nothing beyond the last ones, however many were done.
func TestAccessesTakeNoMemory(t *testing.T) {
	each(t, 2, func(t *testing.T, w touched) {
		grown := testing.AllocsPerRun(10, func() {
			for n := range uint64(20000) {
				w.Swap(0, 1, n, n+1)
				w.Load(1, 1)
				w.Clock(2)
				w.Tick(1)
			}
		})
		if grown != 0 {
			t.Errorf("%v allocations", grown)
		}
	})
}

// P11.2, P11.3, P11.4: a Mach and a Real do what the chapter says, at any arguments.

// told is the chapter's words, kept plainly.
type told struct {
	words []uint64
	clock int64
	all   []Access
}

func (w *told) refuses(who, word int) bool {
	return who < 0 || who > 63 || word < 0 || word >= len(w.words)
}

func (w *told) load(who, word int) (uint64, api.Errno) {
	if w.refuses(who, word) {
		return 0, api.ErrArg
	}
	w.all = append(w.all, Access{who, Load, word, w.words[word], 0, true})
	return w.words[word], api.OK
}

func (w *told) swap(who, word int, old, new uint64) (bool, api.Errno) {
	if w.refuses(who, word) {
		return false, api.ErrArg
	}
	was := w.words[word]
	if was == old {
		w.words[word] = new
	}
	w.all = append(w.all, Access{who, Swap, word, old, new, was == old})
	return was == old, api.OK
}

func (w *told) readClock(who int) (int64, api.Errno) {
	if who < 0 || who > 63 {
		return 0, api.ErrArg
	}
	w.all = append(w.all, Access{who, Clock, 0, uint64(w.clock), 0, true})
	return w.clock, api.OK
}

func (w *told) tick(n int64) (int64, api.Errno) {
	if n < 0 || n > api.Max {
		return 0, api.ErrArg
	}
	if w.clock > api.Max-n {
		w.clock = api.Max
	} else {
		w.clock += n
	}
	return w.clock, api.OK
}

func TestAgainstTheWords(t *testing.T) {
	rnd := rand.New(rand.NewSource(11))
	for range 300 {
		words := 1 + rnd.Intn(4)
		m, r := made(t, words), plain(t, words)
		w := &told{words: make([]uint64, words)}
		for range 300 {
			who, word := rnd.Intn(68)-2, rnd.Intn(words+2)-1
			switch rnd.Intn(7) {
			case 0, 1:
				want, fault := w.load(who, word)
				wantLoad(t, m, who, word, want, fault)
				wantLoad(t, r, who, word, want, fault)
			case 2, 3, 4:
				old, new := uint64(rnd.Intn(3)), uint64(rnd.Intn(3))
				want, fault := w.swap(who, word, old, new)
				wantSwap(t, m, who, word, old, new, want, fault)
				wantSwap(t, r, who, word, old, new, want, fault)
			case 5:
				want, fault := w.readClock(who)
				wantClock(t, m, who, want, fault)
				wantClock(t, r, who, want, fault)
			default:
				n := []int64{-1, 0, 1, 5, api.Max / 3, rnd.Int63n(api.Max), api.Max + 1}[rnd.Intn(7)]
				want, fault := w.tick(n)
				wantTick(t, m, n, want, fault)
				wantTick(t, r, n, want, fault)
			}
			for word, want := range w.words {
				wantWord(t, m, word, want, api.OK)
			}
			wantCount(t, m, len(w.all))
			n := rnd.Intn(65)
			wantLast(t, m, n, w.all[max(0, len(w.all)-n):], api.OK)
			if t.Failed() {
				return
			}
		}
	}
}

// P11.4

// together runs f in so many goroutines at one time.
func together(n int, f func(who int)) {
	var begin, wait sync.WaitGroup
	begin.Add(1)
	for who := range n {
		wait.Go(func() {
			begin.Wait()
			f(who)
		})
	}
	begin.Done()
	wait.Wait()
}

// No Swap is lost or done twice: each number is put by one worker alone.
func TestSwapsTogether(t *testing.T) {
	const workers, rounds = 64, 5000
	r := plain(t, 2)
	var got [workers][]uint64
	together(workers, func(who int) {
		for len(got[who]) < rounds {
			x, _ := r.Load(who, 1)
			if done, _ := r.Swap(who, 1, x, x+1); done {
				got[who] = append(got[who], x)
			}
		}
	})
	wantLoad(t, r, 0, 1, workers*rounds, api.OK)
	wantLoad(t, r, 0, 0, 0, api.OK)
	all := slices.Sorted(slices.Values(slices.Concat(got[:]...)))
	for want, x := range all {
		if x != uint64(want) {
			t.Fatalf("at the place %d stands %d", want, x)
		}
	}
}

// A Load sees a word whole, never halves of two.
func TestLoadsTogether(t *testing.T) {
	r := plain(t, 1)
	together(8, func(who int) {
		for range 20000 {
			x, _ := r.Load(who, 0)
			if x>>32 != x&math.MaxUint32 {
				t.Errorf("Load = %x", x)
				return
			}
			half := x>>32 + 1
			r.Swap(who, 0, x, half<<32|half)
		}
	})
}

// Each Tick goes on from where another one stopped: none is lost, each shows
// another number, and the clock never goes back.
func TestTicksTogether(t *testing.T) {
	const workers, rounds = 16, 20000
	r := plain(t, 1)
	var got [workers][]int64
	together(workers, func(who int) {
		last := int64(0)
		for range rounds {
			shown, fault := r.Tick(3)
			now, clockFault := r.Clock(who)
			if fault != api.OK || clockFault != api.OK || shown <= last || now < shown {
				t.Errorf("behind %d: Tick = %d, %d, Clock = %d, %d", last, shown, fault, now, clockFault)
				return
			}
			got[who] = append(got[who], shown)
			last = now
		}
	})
	wantClock(t, r, 0, 3*workers*rounds, api.OK)
	all := slices.Sorted(slices.Values(slices.Concat(got[:]...)))
	for place, shown := range all {
		if shown != 3*int64(place+1) {
			t.Fatalf("the Tick %d shows %d", place, shown)
		}
	}
}

// Where many Ticks go to the end at one time nobody ever sees the clock beyond it.
func TestClockStopsTogether(t *testing.T) {
	for range 500 {
		r := plain(t, 1)
		together(16, func(who int) {
			for range 20 {
				shown, _ := r.Tick(api.Max - int64(who))
				now, _ := r.Clock(who)
				if shown < 0 || shown > api.Max || now < shown || now > api.Max {
					t.Errorf("Tick = %d, Clock = %d", shown, now)
					return
				}
				runtime.Gosched()
			}
		})
		wantClock(t, r, 0, api.Max, api.OK)
	}
}
