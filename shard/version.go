package shard

import (
	"slices"

	"spigot/api"
	"spigot/hash"
	"spigot/tick"
)

// version is the entries of the map in the order of their keys, each key once. It
// is never changed, and its keys' bytes neither: the versions that are made out of
// it share them.
type version []Entry

// call is what was asked.
type call struct {
	op    byte
	key   []byte
	value int64
}

// of is what the call answers where the version v holds, and the version that it
// makes of v.
func (c call) of(v version) (Result, version) {
	place, found := v.find(c.key)
	if c.op == Put || c.op == Add {
		return c.set(v, place, found)
	}
	if !found {
		return Result{Done: true, E: api.ErrNone}, nil
	}
	answer := Result{Done: true, N: v[place].Value}
	if c.op == Get {
		return answer, nil
	}
	return answer, slices.Concat(v[:place], v[place+1:])
}

// set is what a Put or an Add makes of v, whose entry at the place has the key or
// is the first behind it.
func (c call) set(v version, place int, found bool) (Result, version) {
	value, behind := c.value, place
	switch {
	case !found && len(v) >= api.MaxCells:
		return Result{Done: true, E: api.ErrFull}, nil
	case found && c.op == Add:
		// Both are ticks: there is no fault.
		value, _ = tick.Add(v[place].Value, c.value)
	}
	if found {
		behind++
	}
	made := slices.Concat(v[:place], version{{Key: c.key, Value: value}}, v[behind:])
	return Result{Done: true, N: value}, made
}

// changes: does the call change the map where it would answer so?
func (c call) changes(answer Result) bool {
	return c.op != Get && answer.E == api.OK
}

// find: the place of the key's entry, or of the first behind it, and whether it
// is the key's.
func (v version) find(key []byte) (int, bool) {
	return slices.BinarySearchFunc(v, key, func(entry Entry, key []byte) int {
		return hash.Order(entry.Key, key)
	})
}
