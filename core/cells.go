package core

import (
	"cmp"
	"maps"
	"slices"

	"spigot/api"
	"spigot/cell"
	"spigot/hash"
)

// cells are those of a shard, by their identities. The one whose Swap is done
// changes them where they are, so that nobody keeps them beyond the step with which
// they were found; what is frozen nobody changes.
type cells = map[string]cell.Cell

// tell tells them as they are answered.
func tell(c cells) []api.Cell {
	list := make([]api.Cell, 0, len(c))
	for id, one := range c {
		// hash.Ident has made it: there is no fault.
		policy, key, _ := hash.Parts([]byte(id))
		list = append(list, api.Cell{Policy: policy, Key: key, TAT: one.TAT, Held: slices.Clone(one.Held)})
	}
	return list
}

// inOrder is the order of identities: hash.Order's, of the policy's byte and the key
// behind it.
func inOrder(a, b api.Cell) int {
	return cmp.Or(cmp.Compare(a.Policy, b.Policy), hash.Order(a.Key, b.Key))
}

// soonest is the first clock at which one of them is idle, or cell.Never.
func soonest(c cells) int64 {
	first := cell.Never
	for _, one := range c {
		first = min(first, one.IdleFrom())
	}
	return first
}

// forget forgets those that are idle at a clock, and tells how many those were.
func forget(c cells, now int64) int {
	before := len(c)
	maps.DeleteFunc(c, func(_ string, one cell.Cell) bool { return one.Idle(now) })
	return before - len(c)
}
