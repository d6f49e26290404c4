package cut

import "spigot/mach"

// word is a word of a machine that holds something: the number of the version
// stands there, 0 for none, and what the version is stands here.
type word[V any] struct {
	words  *mach.Mach
	number int
	holds  V
}

// frozen is added to the number of a version that never changes again.
const frozen uint64 = 1 << 62

// load reads the word. Here and below: the machine has it, and who is a worker, so
// that no access fails.
func (w *word[V]) load(who int) (uint64, V) {
	version, _ := w.words.Load(who, w.number)
	return version, w.holds
}

// swap puts the version behind the one that was read in its place.
func (w *word[V]) swap(who int, version uint64, made func() V) bool {
	done, _ := w.words.Swap(who, w.number, version, version+1)
	if done {
		w.holds = made()
	}
	return done
}

// freeze lets the version that was read be the last one.
func (w *word[V]) freeze(who int, version uint64) bool {
	done, _ := w.words.Swap(who, w.number, version, version+frozen)
	return done
}

// isThere is asked without an access.
func (w *word[V]) isThere() bool {
	version, _ := w.words.Word(w.number)
	return version != 0
}

func (w *word[V]) forget() {
	var nothing V
	w.holds = nothing
}
