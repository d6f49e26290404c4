package shell

import (
	"strings"

	"spigot/api"
	"spigot/conf"
	"spigot/token"
	"spigot/word"
)

// The first words of lines.
const (
	allow   = "allow"
	acquire = "acquire"
	release = "release"
	peek    = "peek"
	evict   = "evict"
	split   = "split"
	tick    = "tick"
	cells   = "cells"
	count   = "count"
)

// A key's bytes are those that can be seen, and so no blank.
const (
	leastKey    = 0x21
	greatestKey = 0x7e
)

// wordsOf: what stands between the blanks, an empty word between two of them.
func wordsOf(line string) []string { return strings.Split(line, " ") }

// begins: are these the words of a line with that first word, and so many behind it?
func begins(words []string, first string, behind int) bool {
	return words[0] == first && len(words) == 1+behind
}

// read: the call that the words tell.
func read(list []conf.Named, words []string) (api.Call, api.Errno) {
	switch {
	case begins(words, allow, 3):
		return readAllow(list, words[1], words[2], words[3])
	case begins(words, acquire, 2):
		return readKeyed(list, api.OpAcquire, words[1], words[2])
	case begins(words, release, 1):
		return readRelease(words[1])
	case begins(words, peek, 2):
		return readKeyed(list, api.OpPeek, words[1], words[2])
	case begins(words, evict, 0):
		return api.Call{Op: api.OpEvict}, api.OK
	case begins(words, split, 0):
		return api.Call{Op: api.OpSplit}, api.OK
	}
	return api.Call{}, api.ErrText
}

func readAllow(list []conf.Named, name, key, cost string) (api.Call, api.Errno) {
	// The cost first: a wrong one is told also where the name stands for nothing.
	n, ok := word.Whole(cost)
	if !ok {
		return api.Call{}, api.ErrText
	}
	call, fault := readKeyed(list, api.OpAllow, name, key)
	if fault != api.OK {
		return api.Call{}, fault
	}
	call.N = n
	return call, api.OK
}

func readKeyed(list []conf.Named, op byte, name, key string) (api.Call, api.Errno) {
	if !word.Name(name) || !isKey(key) {
		return api.Call{}, api.ErrText
	}
	number, fault := conf.Find(list, name)
	if fault != api.OK {
		return api.Call{}, api.ErrName
	}
	return api.Call{Op: op, Policy: number, Key: []byte(key)}, api.OK
}

func readRelease(text string) (api.Call, api.Errno) {
	p, fault := token.Unhex(text)
	if fault != api.OK {
		return api.Call{}, api.ErrText
	}
	t, fault := token.Decode(p)
	if fault != api.OK {
		return api.Call{}, api.ErrText
	}
	return api.Call{Op: api.OpRelease, Policy: t.Policy, Key: t.Key, N: t.Serial}, api.OK
}

func isKey(s string) bool {
	for i := range len(s) {
		if s[i] < leastKey || s[i] > greatestKey {
			return false
		}
	}
	return s != "" && len(s) <= api.MaxKey
}
