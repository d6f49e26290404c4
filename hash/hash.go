// Package hash is layer 2: sums of bytes (FNV-1a of 64 bits), identities of
// keys, and the shard in which an identity lies.
package hash

import (
	"bytes"

	"spigot/api"
)

const (
	first uint64 = 14695981039346656037
	prime uint64 = 1099511628211
)

// Sum: the sum of p.
func Sum(p []byte) uint64 { return Update(first, p) }

// Update: the steps of a sum, begun with h.
func Update(h uint64, p []byte) uint64 {
	for _, b := range p {
		h = (h ^ uint64(b)) * prime
	}
	return h
}

// Ident: the identity of a key under a policy.
func Ident(policy int, key []byte) ([]byte, api.Errno) {
	if policy < 0 || policy >= api.MaxPolicies {
		return nil, api.ErrArg
	}
	if len(key) > api.MaxKey {
		return nil, api.ErrLong
	}
	id := make([]byte, 1+len(key))
	id[0] = byte(policy)
	copy(id[1:], key)
	return id, api.OK
}

// Parts: the policy and the key of which id is the identity.
func Parts(id []byte) (int, []byte, api.Errno) {
	if len(id) == 0 || len(id) > 1+api.MaxKey || id[0] >= api.MaxPolicies {
		return 0, nil, api.ErrForm
	}
	// A piece of id would share the caller's memory, so the key is copied.
	key := make([]byte, len(id)-1)
	copy(key, id[1:])
	return int(id[0]), key, api.OK
}

// Shard: in which of 2^level shards id lies.
func Shard(id []byte, level int) (int, api.Errno) {
	if level < 0 || level > api.MaxLevel {
		return 0, api.ErrArg
	}
	mask := uint64(1)<<level - 1
	return int(Sum(id) & mask), api.OK
}

// Order: -1, 0 or 1, byte by byte, a beginning ahead of what it begins.
func Order(a, b []byte) int { return bytes.Compare(a, b) }
