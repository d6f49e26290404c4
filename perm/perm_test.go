package perm

import (
	"math"
	"slices"
	"testing"

	"spigot/api"
)

const Max = 4611686018427387903

// upTo: the serials from 1 to n.
func upTo(n int) []int64 {
	list := make([]int64, n)
	for i := range list {
		list[i] = int64(i + 1)
	}
	return list
}

var (
	inForm = []Sema{
		{1, nil}, {1, []int64{}}, {1, []int64{1}}, {1, []int64{Max}},
		{2, nil}, {2, []int64{5}}, {2, []int64{3, 5}}, {2, []int64{1, Max}}, {2, []int64{Max - 1, Max}},
		{3, []int64{1, 2}}, {3, []int64{2, 4, 6}}, {5, []int64{1, 10, 100, 1 << 40}},
		{64, nil}, {64, []int64{7}}, {64, upTo(63)}, {64, upTo(64)},
	}
	noForm = []Sema{
		{}, {0, []int64{1}}, {-1, nil}, {math.MinInt, nil}, {65, nil}, {65, []int64{1}}, {math.MaxInt, upTo(3)},
		// More than there are permits.
		{1, []int64{1, 2}}, {2, []int64{1, 2, 3}}, {64, upTo(65)}, {64, upTo(1000)}, {1, []int64{5, 5}},
		// Not rising.
		{2, []int64{2, 1}}, {1, []int64{2, 1}}, {2, []int64{5, 5}}, {3, []int64{1, 2, 2}}, {3, []int64{1, 3, 2}}, {3, []int64{3, 1, 2}}, {64, append(upTo(63), 63)},
		// Not serials.
		{1, []int64{0}}, {2, []int64{0, 1}}, {2, []int64{-1, 1}}, {2, []int64{math.MinInt64, 1}}, {2, []int64{-2, -1}},
		{1, []int64{Max + 1}}, {2, []int64{1, Max + 1}}, {2, []int64{1, math.MaxInt64}}, {2, []int64{Max + 1, Max + 2}},
	}
	noSerials = []int64{0, -1, -5, math.MinInt64, Max + 1, math.MaxInt64}
	serials   = []int64{1, 2, 3, 4, 5, 6, 7, 9, 10, 63, 64, 65, 100, 1 << 40, Max - 1, Max}
)

func same(a, b Sema) bool { return a.Permits == b.Permits && slices.Equal(a.Held, b.Held) }

// roomy: s, its serials with spare room behind them, filled with one number.
func roomy(s Sema) Sema {
	room := append(slices.Clone(s.Held), slices.Repeat([]int64{77}, 100)...)
	return Sema{s.Permits, room[:len(s.Held)]}
}

// all: the serials of s with its spare room.
func all(s Sema) []int64 { return s.Held[:cap(s.Held)] }

// P6.1

func TestNew(t *testing.T) {
	for permits := 1; permits <= 64; permits++ {
		if s, fault := New(permits); !same(s, Sema{permits, nil}) || fault != api.OK {
			t.Errorf("New(%d) = %v, %d", permits, s, fault)
		}
	}
	for _, permits := range []int{0, -1, math.MinInt, 65, 66, math.MaxInt, 257} {
		if s, fault := New(permits); !same(s, Sema{}) || fault != api.ErrArg {
			t.Errorf("New(%d) = %v, %d", permits, s, fault)
		}
	}
}

func TestCheck(t *testing.T) {
	for _, s := range inForm {
		if fault := Check(s); fault != api.OK {
			t.Errorf("Check(%v) = %d", s, fault)
		}
	}
	for _, s := range noForm {
		if fault := Check(s); fault != api.ErrForm {
			t.Errorf("Check(%v) = %d", s, fault)
		}
	}
}

// P6.2

func TestTake(t *testing.T) {
	for _, c := range []struct {
		s      Sema
		serial int64
		want   Sema
		fault  api.Errno
	}{
		{Sema{2, []int64{5}}, 3, Sema{2, []int64{3, 5}}, api.OK},
		{Sema{2, []int64{5}}, 9, Sema{2, []int64{5, 9}}, api.OK},
		{Sema{3, []int64{3, 9}}, 5, Sema{3, []int64{3, 5, 9}}, api.OK},
		{Sema{1, nil}, 1, Sema{1, []int64{1}}, api.OK},
		{Sema{1, nil}, Max, Sema{1, []int64{Max}}, api.OK},
		{Sema{64, upTo(63)}, 64, Sema{64, upTo(64)}, api.OK},
		{Sema{64, upTo(64)[1:]}, 1, Sema{64, upTo(64)}, api.OK},
		{Sema{2, []int64{3, 5}}, 9, Sema{}, api.ErrBusy},
		{Sema{2, []int64{3, 5}}, 4, Sema{}, api.ErrBusy},
		{Sema{64, upTo(64)}, 65, Sema{}, api.ErrBusy},
		// Held, and all permits with it or not.
		{Sema{2, []int64{3, 5}}, 5, Sema{}, api.ErrExists},
		{Sema{2, []int64{3, 5}}, 3, Sema{}, api.ErrExists},
		{Sema{2, []int64{5}}, 5, Sema{}, api.ErrExists},
		{Sema{2, []int64{3, 5}}, 0, Sema{}, api.ErrArg},
		{Sema{2, []int64{3, 5}}, -1, Sema{}, api.ErrArg},
		{Sema{2, []int64{5}}, Max + 1, Sema{}, api.ErrArg},
		{Sema{2, []int64{5}}, math.MaxInt64, Sema{}, api.ErrArg},
		{Sema{2, []int64{5}}, math.MinInt64, Sema{}, api.ErrArg},
		{Sema{1, []int64{2, 1}}, 3, Sema{}, api.ErrForm},
		{Sema{1, []int64{1, 2}}, 3, Sema{}, api.ErrForm},
		{Sema{1, []int64{1, 2}}, 2, Sema{}, api.ErrForm},
		{Sema{65, nil}, 3, Sema{}, api.ErrForm},
		{Sema{}, 1, Sema{}, api.ErrForm},
		{Sema{}, 0, Sema{}, api.ErrArg},
	} {
		if got, fault := Take(c.s, c.serial); !same(got, c.want) || fault != c.fault {
			t.Errorf("Take(%v, %d) = %v, %d, not %v, %d", c.s, c.serial, got, fault, c.want, c.fault)
		}
	}
}

// wantTake: what Take answers of an s in form.
func wantTake(s Sema, serial int64) (Sema, api.Errno) {
	switch {
	case slices.Contains(noSerials, serial):
		return Sema{}, api.ErrArg
	case slices.Contains(s.Held, serial):
		return Sema{}, api.ErrExists
	case len(s.Held) == s.Permits:
		return Sema{}, api.ErrBusy
	}
	held := append(slices.Clone(s.Held), serial)
	slices.Sort(held)
	return Sema{s.Permits, held}, api.OK
}

// wantGive: what Give answers of an s in form.
func wantGive(s Sema, serial int64) (Sema, api.Errno) {
	held := slices.DeleteFunc(slices.Clone(s.Held), func(n int64) bool { return n == serial })
	if len(held) == len(s.Held) {
		return Sema{}, api.ErrToken
	}
	return Sema{s.Permits, held}, api.OK
}

func TestTakeAndGiveAll(t *testing.T) {
	for _, s := range inForm {
		for _, serial := range slices.Concat(serials, noSerials) {
			want, wantFault := wantTake(s, serial)
			if got, fault := Take(s, serial); !same(got, want) || fault != wantFault {
				t.Errorf("Take(%v, %d) = %v, %d", s, serial, got, fault)
			}
			want, wantFault = wantGive(s, serial)
			if got, fault := Give(s, serial); !same(got, want) || fault != wantFault {
				t.Errorf("Give(%v, %d) = %v, %d", s, serial, got, fault)
			}
		}
	}
}

func TestTakeAndGiveWrong(t *testing.T) {
	for _, s := range noForm {
		for _, serial := range slices.Concat(serials, noSerials) {
			want := api.ErrForm
			if slices.Contains(noSerials, serial) {
				want = api.ErrArg
			}
			if got, fault := Take(s, serial); !same(got, Sema{}) || fault != want {
				t.Errorf("Take(%v, %d) = %v, %d", s, serial, got, fault)
			}
			if got, fault := Give(s, serial); !same(got, Sema{}) || fault != api.ErrForm {
				t.Errorf("Give(%v, %d) = %v, %d", s, serial, got, fault)
			}
		}
	}
}

func TestGive(t *testing.T) {
	for _, c := range []struct {
		s      Sema
		serial int64
		want   Sema
		fault  api.Errno
	}{
		{Sema{2, []int64{3, 5}}, 3, Sema{2, []int64{5}}, api.OK},
		{Sema{2, []int64{3, 5}}, 5, Sema{2, []int64{3}}, api.OK},
		{Sema{3, []int64{3, 5, 9}}, 5, Sema{3, []int64{3, 9}}, api.OK},
		{Sema{1, []int64{Max}}, Max, Sema{1, nil}, api.OK},
		{Sema{64, upTo(64)}, 64, Sema{64, upTo(63)}, api.OK},
		{Sema{2, []int64{3, 5}}, 4, Sema{}, api.ErrToken},
		{Sema{2, []int64{3, 5}}, 9, Sema{}, api.ErrToken},
		{Sema{2, nil}, 1, Sema{}, api.ErrToken},
		// Whatever number it is.
		{Sema{2, []int64{3, 5}}, 0, Sema{}, api.ErrToken},
		{Sema{2, []int64{3, 5}}, -1, Sema{}, api.ErrToken},
		{Sema{2, []int64{3, 5}}, math.MinInt64, Sema{}, api.ErrToken},
		{Sema{2, []int64{3, 5}}, math.MaxInt64, Sema{}, api.ErrToken},
		{Sema{1, []int64{2, 1}}, 2, Sema{}, api.ErrForm},
		{Sema{1, []int64{1, 2}}, 1, Sema{}, api.ErrForm},
		{Sema{}, -1, Sema{}, api.ErrForm},
	} {
		if got, fault := Give(c.s, c.serial); !same(got, c.want) || fault != c.fault {
			t.Errorf("Give(%v, %d) = %v, %d, not %v, %d", c.s, c.serial, got, fault, c.want, c.fault)
		}
	}
}

// What is handed in stays as it is, its spare room too, and nothing of it is kept.
func TestHandedInStays(t *testing.T) {
	for _, s := range slices.Concat(inForm, noForm) {
		for _, serial := range slices.Concat(serials, noSerials) {
			handed := roomy(s)
			kept := slices.Clone(all(handed))
			taken, _ := Take(handed, serial)
			given, _ := Give(handed, serial)
			Check(handed)
			Has(handed, serial)
			Free(handed)
			if handed.Permits != s.Permits || !slices.Equal(all(handed), kept) {
				t.Errorf("%v with %d was changed: %v", s, serial, all(handed))
			}
			wasTaken, wasGiven := slices.Clone(taken.Held), slices.Clone(given.Held)
			clear(all(handed))
			if !slices.Equal(taken.Held, wasTaken) || !slices.Equal(given.Held, wasGiven) {
				t.Errorf("%v with %d was kept", s, serial)
			}
		}
	}
}

func TestAnswersAreNewMemory(t *testing.T) {
	handed := roomy(Sema{4, []int64{3, 5}})
	kept := slices.Clone(all(handed))
	for _, serial := range []int64{1, 4, 9} {
		first, _ := Take(handed, serial)
		second, _ := Take(handed, serial)
		want := slices.Clone(second.Held)
		clear(all(first))
		if !slices.Equal(all(handed), kept) || !slices.Equal(second.Held, want) {
			t.Errorf("Take's answer with %d shares memory", serial)
		}
	}
	for _, serial := range []int64{3, 5} {
		first, _ := Give(handed, serial)
		second, _ := Give(handed, serial)
		want := slices.Clone(second.Held)
		clear(all(first))
		if !slices.Equal(all(handed), kept) || !slices.Equal(second.Held, want) {
			t.Errorf("Give's answer with %d shares memory", serial)
		}
	}
}

// Taken in any order and given back in any order, the serials stand in theirs.
func TestTakeAllThenGiveAll(t *testing.T) {
	for _, stride := range []int{1, 5, 27, 63} {
		s, _ := New(64)
		var held []int64
		for i := range 64 {
			serial := int64(i*stride%64 + 1)
			s, _ = Take(s, serial)
			held = append(held, serial)
			slices.Sort(held)
			if !slices.Equal(s.Held, held) || Check(s) != api.OK {
				t.Fatalf("%v, not %v", s, held)
			}
		}
		for i := range 64 {
			serial := int64(i*stride%64 + 1)
			s, _ = Give(s, serial)
			held = slices.DeleteFunc(held, func(n int64) bool { return n == serial })
			if !slices.Equal(s.Held, held) || s.Permits != 64 {
				t.Fatalf("%v, not %v", s, held)
			}
			if _, fault := Give(s, serial); fault != api.ErrToken {
				t.Fatalf("%d was given back twice: %d", serial, fault)
			}
		}
	}
}

// P6.3

func TestHasAndFree(t *testing.T) {
	for _, s := range inForm {
		for _, serial := range slices.Concat(serials, noSerials) {
			if got, fault := Has(s, serial); got != slices.Contains(s.Held, serial) || fault != api.OK {
				t.Errorf("Has(%v, %d) = %v, %d", s, serial, got, fault)
			}
		}
		if got, fault := Free(s); got != s.Permits-len(s.Held) || fault != api.OK {
			t.Errorf("Free(%v) = %d, %d", s, got, fault)
		}
	}
	for _, c := range []struct {
		s    Sema
		want int
	}{
		{Sema{2, []int64{5}}, 1}, {Sema{2, nil}, 2}, {Sema{2, []int64{3, 5}}, 0}, {Sema{64, nil}, 64}, {Sema{64, upTo(64)}, 0},
	} {
		if got, fault := Free(c.s); got != c.want || fault != api.OK {
			t.Errorf("Free(%v) = %d, %d", c.s, got, fault)
		}
	}
}

func TestHasAndFreeWrong(t *testing.T) {
	for _, s := range noForm {
		for _, serial := range slices.Concat(serials, noSerials) {
			if got, fault := Has(s, serial); got || fault != api.ErrForm {
				t.Errorf("Has(%v, %d) = %v, %d", s, serial, got, fault)
			}
		}
		if got, fault := Free(s); got != 0 || fault != api.ErrForm {
			t.Errorf("Free(%v) = %d, %d", s, got, fault)
		}
	}
}
