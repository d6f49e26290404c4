package cut

import (
	"slices"
	"testing"

	"spigot/api"
	"spigot/hash"
	"spigot/mach"
)

// Shards of other things than layer 15's: numbers, in lists that never change, each
// lying where a key of that sum does.

func part(whole []int, level, i int) []int {
	var list []int
	for _, n := range whole {
		if n%(1<<level) == i {
			list = append(list, n)
		}
	}
	return list
}

// made are shards on a machine that has two words more.
func made(first []int) *Shards[[]int] {
	words, _ := mach.New(Words + 2)
	return New(words, first, part)
}

// add puts a number behind those of its shard.
func add(s *Shards[[]int], who, n int) Step[string] {
	return Find(s, who, uint64(n), func(f Found[[]int]) (string, Step[string]) {
		return "", func() (string, Step[string]) {
			if !s.Change(who, f, func() []int { return append(slices.Clip(f.Holds), n) }) {
				return "", add(s, who, n)
			}
			return "added", nil
		}
	})
}

func splitAll(s *Shards[[]int], who int) Step[string] {
	return Split(s, who, func(fault api.Errno) string {
		if fault != api.OK {
			return "no"
		}
		return "split"
	})
}

// alone steps a call till it returns, and tells how and behind how many steps.
func alone(next Step[string]) (string, int) {
	answer, n := "", 0
	for next != nil {
		answer, next = next()
		n++
	}
	return answer, n
}

func want(t *testing.T, next Step[string], answer string, steps int) {
	t.Helper()
	if got, n := alone(next); got != answer || n != steps {
		t.Errorf("%q behind %d steps, not %q behind %d", got, n, answer, steps)
	}
}

func wantHoldings(t *testing.T, s *Shards[[]int], want ...[]int) {
	t.Helper()
	if got := s.Holdings(); !slices.EqualFunc(got, want, slices.Equal) {
		t.Errorf("Holdings = %v, not %v", got, want)
	}
}

func TestShardsOfNumbers(t *testing.T) {
	s := made([]int{5})
	wantHoldings(t, s, []int{5})
	if s.Steps() != 0 {
		t.Error("Steps =", s.Steps())
	}
	want(t, add(s, 0, 6), "added", 3)
	want(t, splitAll(s, 0), "split", 9)
	wantHoldings(t, s, []int{6}, []int{5})
	want(t, add(s, 0, 7), "added", 3)
	want(t, splitAll(s, 0), "split", 15)
	wantHoldings(t, s, nil, []int{5}, []int{6}, []int{7})
	want(t, splitAll(s, 0), "split", 27)
	want(t, splitAll(s, 0), "split", 51)
	want(t, splitAll(s, 0), "no", 1)
	if s.Steps() != 3+9+3+15+27+51+1 {
		t.Error("Steps =", s.Steps())
	}
	list := make([][]int, 16)
	list[5], list[6], list[7] = []int{5}, []int{6}, []int{7}
	wantHoldings(t, s, list...)
}

// The words themselves, access by access: D is the word 0, R(0, 0) the word 1.
func TestAccesses(t *testing.T) {
	const cold = 1 << 62
	s := made([]int{5})
	want(t, add(s, 3, 6), "added", 3)
	late := add(s, 4, 8)
	_, late = late()
	_, late = late()
	want(t, splitAll(s, 5), "split", 9)
	want(t, late, "added", 4)
	load := func(who, word int, old uint64) mach.Access {
		return mach.Access{Who: who, Kind: mach.Load, Word: word, Old: old, Done: true}
	}
	swap := func(who, word int, old, next uint64, done bool) mach.Access {
		return mach.Access{Who: who, Kind: mach.Swap, Word: word, Old: old, New: next, Done: done}
	}
	list := []mach.Access{
		swap(0, 1, 0, 1, true), // New's own
		load(3, 0, 0), load(3, 1, 1), swap(3, 1, 1, 2, true),
		load(4, 0, 0), load(4, 1, 2),
		load(5, 0, 0), swap(5, 0, 0, 1, true),
		load(5, 1, 2), swap(5, 1, 2, 2+cold, true),
		load(5, 2, 0), swap(5, 2, 0, 1, true),
		load(5, 3, 0), swap(5, 3, 0, 1, true),
		swap(5, 0, 1, 2, true),
		swap(4, 1, 2, 3, false), load(4, 0, 2), load(4, 2, 1), swap(4, 2, 1, 2, true),
	}
	if got, _ := s.words.Last(64); !slices.Equal(got, list) {
		t.Errorf("accesses\n%v, not\n%v", got, list)
	}
}

// What is told of shards that aren't there yet, some of them being there; and what
// was found stays as it is, whatever becomes of the shard.
func TestHoldingsOfMoving(t *testing.T) {
	s := made([]int{1, 2, 3, 4})
	var found []int
	look := Find(s, 1, 2, func(f Found[[]int]) (string, Step[string]) {
		found = f.Holds
		return "found", nil
	})
	want(t, look, "found", 2)
	next := splitAll(s, 0)
	for n := range 9 {
		level, moving := s.Level()
		switch {
		case n < 2:
			wantHoldings(t, s, []int{1, 2, 3, 4})
		default:
			wantHoldings(t, s, []int{2, 4}, []int{1, 3})
		}
		if level != 0 || moving != (n >= 2) {
			t.Error(n, level, moving)
		}
		_, next = next()
	}
	want(t, add(s, 1, 8), "added", 3)
	wantHoldings(t, s, []int{2, 4, 8}, []int{1, 3})
	if !slices.Equal(found, []int{1, 2, 3, 4}) {
		t.Error(found)
	}
	// The same step of a call may be asked once more: it keeps nothing itself.
	want(t, look, "found", 2)
	if !slices.Equal(found, []int{2, 4, 8}) {
		t.Error(found)
	}
}

// Things that lie by their keys are parted as hash.Shard says, and stay where they
// are, too.
func TestPart(t *testing.T) {
	whole := map[string]int{}
	for n := range 200 {
		whole[string(rune(n))] = n
	}
	for level := range api.MaxLevel + 1 {
		all := 0
		for i := range 1 << level {
			part := Part(whole, level, i)
			for key, n := range part {
				if at, _ := hash.Shard([]byte(key), level); at != i || whole[key] != n {
					t.Error(level, i, key, n)
				}
			}
			all += len(part)
		}
		if all != len(whole) || all != 200 {
			t.Error(level, all)
		}
	}
	one := Part(map[string]int{"a": 5}, 0, 0)
	one["b"] = 6
	if part := Part(one, 1, 0); part == nil || len(part)+len(Part(one, 1, 1)) != 2 {
		t.Error(part)
	}
}

// The words behind those of the shards are the caller's: an access to them is a step
// as any other one, and changes nothing of the shards.
func TestWordsBehind(t *testing.T) {
	words, _ := mach.New(Words + 2)
	s := New(words, []int{5}, part)
	for word := Words; word < Words+2; word++ {
		if value, e := words.Load(0, word); value != 0 || e != api.OK {
			t.Error(word, value, e)
		}
		words.Swap(0, word, 0, 77)
	}
	if s.Steps() != 4 {
		t.Error("Steps =", s.Steps())
	}
	for range 4 {
		want(t, splitAll(s, 0), "split", map[int]int{4: 9, 13: 15, 28: 27, 55: 51}[s.Steps()])
	}
	for word := Words; word < Words+2; word++ {
		if value, _ := words.Word(word); value != 77 {
			t.Error(word, value)
		}
	}
}

func TestReadLevel(t *testing.T) {
	s := made(nil)
	next := splitAll(s, 0)
	for n := range 9 {
		level, moving := s.ReadLevel(1)
		if level != 0 || moving != (n >= 2) {
			t.Error(n, level, moving)
		}
		_, next = next()
	}
	if level, moving := s.ReadLevel(63); level != 1 || moving || s.Steps() != 9+10 {
		t.Error(level, moving, s.Steps())
	}
}

// made is asked only where the Swap is done.
func TestChangeThatIsNotDone(t *testing.T) {
	s := made([]int{1})
	var f Found[[]int]
	alone(Find(s, 0, 1, func(found Found[[]int]) (string, Step[string]) {
		f = found
		return "", nil
	}))
	want(t, add(s, 1, 3), "added", 3)
	if s.Change(0, f, func() []int { t.Error("asked"); return nil }) {
		t.Error("done")
	}
	wantHoldings(t, s, []int{1, 3})
}

func TestPlaces(t *testing.T) {
	number := 1
	for level := range api.MaxLevel + 1 {
		for i := range 1 << level {
			p := place{level, i}
			if p.number() != number {
				t.Error(p, p.number())
			}
			number++
			for n := range 2 {
				if h := p.half(n); h.whole() != p || h.i != i+n<<level || h.level != level+1 {
					t.Error(p, n, h)
				}
			}
			if placeOf(uint64(i)+5<<level, level) != p {
				t.Error(p)
			}
		}
	}
	if number != Words {
		t.Error(number, Words)
	}
}
