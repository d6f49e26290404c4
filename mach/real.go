package mach

import (
	"sync/atomic"

	"spigot/api"
	"spigot/tick"
)

// Real is the same by Go's atomic words.
type Real struct {
	words []atomic.Uint64
	clock atomic.Int64
}

// Plain: so many words.
func Plain(words int) (*Real, api.Errno) {
	if !isSize(words) {
		return nil, api.ErrArg
	}
	return &Real{words: make([]atomic.Uint64, words)}, api.OK
}

// Load: a word is read.
func (r *Real) Load(who, word int) (uint64, api.Errno) {
	if !isWho(who) || !r.isWord(word) {
		return 0, api.ErrArg
	}
	return r.words[word].Load(), api.OK
}

// Swap: a word that is old becomes new; another one stays.
func (r *Real) Swap(who, word int, old, new uint64) (bool, api.Errno) {
	if !isWho(who) || !r.isWord(word) {
		return false, api.ErrArg
	}
	return r.words[word].CompareAndSwap(old, new), api.OK
}

// Clock: the clock is read.
func (r *Real) Clock(who int) (int64, api.Errno) {
	if !isWho(who) {
		return 0, api.ErrArg
	}
	if r == nil {
		return 0, api.ErrNone
	}
	return r.clock.Load(), api.OK
}

// Tick: the clock goes on. A plain atomic sum would not do: many of them at one
// time may go beyond api.Max, where the clock must stop.
func (r *Real) Tick(n int64) (int64, api.Errno) {
	if !tick.Form(n) {
		return 0, api.ErrArg
	}
	if r == nil {
		return 0, api.ErrNone
	}
	for {
		before := r.clock.Load()
		now, fault := tick.Add(before, n)
		if fault != api.OK || r.clock.CompareAndSwap(before, now) {
			return now, fault
		}
	}
}

// isWord: of a nil one no word is a word.
func (r *Real) isWord(word int) bool {
	return r != nil && isPlace(word, len(r.words))
}
