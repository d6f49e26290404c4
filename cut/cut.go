// Package cut is shards that are cut in two while they are used, whatever they
// hold: the words of a directory, and a call's way through them, one access a
// step. Layer 15 builds on it; who has shards of other things may do so, too.
package cut

import (
	"spigot/api"
	"spigot/hash"
	"spigot/mach"
)

// Shards are the words of a directory.
type Shards[V any] struct {
	words  *mach.Mach     // the machine; D is one of its words
	shards [Words]word[V] // by their numbers
	part   func(whole V, level, i int) V
}

// Words is how many words of a machine the shards take, its first ones: D, and 2^k
// of each level k.
const Words = 2 << api.MaxLevel

// Found is a shard as it was read: what it holds, and what a Swap asks for.
type Found[V any] struct {
	Holds  V
	at     place
	number uint64
}

// New: one shard of level 0, which holds first. The first words of the machine are
// the shards' from then on, and must be 0; those behind them are the caller's. part
// tells what of whole lies in the shard i of a level; whole itself must stay as it
// is.
func New[V any](words *mach.Mach, first V, part func(whole V, level, i int) V) *Shards[V] {
	s := &Shards[V]{words: words, part: part}
	for number := range s.shards {
		s.shards[number] = word[V]{words: words, number: number}
	}
	s.Change(0, Found[V]{at: place{0, 0}}, func() V { return first })
	return s
}

// Part is how things that lie by their keys are parted: those of the shard i of a
// level.
func Part[V any](whole map[string]V, level, i int) map[string]V {
	part := map[string]V{}
	for key, value := range whole {
		if placeOf(hash.Sum([]byte(key)), level).i == i {
			part[key] = value
		}
	}
	return part
}

// Steps: how many accesses were done on the machine, but for the one with which New
// put the first shard.
func (s *Shards[V]) Steps() int { return s.words.Count() - 1 }

// Level: at which level the shards are, or from which one they are moving.
func (s *Shards[V]) Level() (int, bool) {
	d, _ := s.words.Word(theLevel)
	return levelOf(d)
}

// Holdings: what a call would find, shard by shard.
func (s *Shards[V]) Holdings() []V {
	level, moving := s.Level()
	if moving {
		level++
	}
	var list []V
	for i := range 1 << level {
		list = append(list, s.holding(place{level, i}))
	}
	return list
}

// holding: of a shard that isn't there yet, what it would hold.
func (s *Shards[V]) holding(at place) V {
	if w := s.word(at); w.isThere() {
		return w.holds
	}
	return s.cutOut(at)
}

// cutOut: what of the shard of the level below lies in this one.
func (s *Shards[V]) cutOut(at place) V {
	return s.part(s.word(at.whole()).holds, at.level, at.i)
}

// Change is the Swap of a shard's word, what was read for one more. Where it is
// done, the shard holds what made answers; else made isn't asked. So nobody has
// changed the shard since it was found when made is asked.
func (s *Shards[V]) Change(who int, f Found[V], made func() V) bool {
	return s.word(f.at).swap(who, f.number, made)
}

// read is the Load of a shard's word.
func (s *Shards[V]) read(who int, at place) Found[V] {
	number, holds := s.word(at).load(who)
	return Found[V]{Holds: holds, at: at, number: number}
}

// freeze is the Swap that lets a shard be as it was read for ever.
func (s *Shards[V]) freeze(who int, f Found[V]) bool {
	return s.word(f.at).freeze(who, f.number)
}

func (s *Shards[V]) word(at place) *word[V] { return &s.shards[at.number()] }

// ReadLevel is the Load of D: at which level the shards are, or from which one they
// are moving.
func (s *Shards[V]) ReadLevel(who int) (int, bool) {
	d, _ := s.words.Load(who, theLevel)
	return levelOf(d)
}

// leave is the Swap of D with which the shards begin to move from a level.
func (s *Shards[V]) leave(who, level int) bool {
	d := uint64(2 * level)
	done, _ := s.words.Swap(who, theLevel, d, d+1)
	return done
}

// arrive is the Swap of D with which they are at the level above.
func (s *Shards[V]) arrive(who, level int) {
	d := uint64(2*level + 1)
	if done, _ := s.words.Swap(who, theLevel, d, d+1); done {
		s.forget(level)
	}
}

// forget: all shards of the level above are there, so what these hold is never
// asked for any more.
func (s *Shards[V]) forget(level int) {
	for i := range 1 << level {
		s.word(place{level, i}).forget()
	}
}

func levelOf(d uint64) (int, bool) { return int(d / 2), d%2 == 1 }

func (f Found[V]) isThere() bool { return f.number != 0 }

func (f Found[V]) isFrozen() bool { return f.number >= frozen }

// theLevel is the number of the word D; those of the shards stand behind it.
const theLevel = 0

// place is where a shard stands: the shard i of a level.
type place struct {
	level int
	i     int
}

// placeOf: where all that has this sum lies at a level.
func placeOf(sum uint64, level int) place {
	return place{level: level, i: int(sum & (1<<level - 1))}
}

// number is that of the shard's word: 1 of level 0, 2 and 3 of level 1, and so on.
func (p place) number() int { return 1<<p.level + p.i }

// whole is the shard out of which this one is cut.
func (p place) whole() place { return placeOf(uint64(p.i), p.level-1) }

// half is the one or the other of those into which it is cut.
func (p place) half(n int) place { return place{p.level + 1, p.i + n<<p.level} }
