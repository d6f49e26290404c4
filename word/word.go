// Package word reads the words of lines: whole numbers and names.
package word

import (
	"strconv"

	"spigot/api"
)

// Digits: one or more digits, and nothing else?
func Digits(s string) bool {
	for i := range len(s) {
		if !isDigit(s[i]) {
			return false
		}
	}
	return s != ""
}

func isDigit(c byte) bool { return c >= '0' && c <= '9' }

// Whole: the tick that a word tells; false, if it tells none.
func Whole(s string) (int64, bool) {
	if !Digits(s) || len(s) > 1 && s[0] == '0' {
		return 0, false
	}
	// Of more than 19 digits, of which the first is no 0, none fit an int64.
	n, err := strconv.ParseInt(s, 10, 64)
	if err != nil || n > api.Max {
		return 0, false
	}
	return n, true
}

// Name: may a policy have that name?
func Name(s string) bool {
	for i := range len(s) {
		if !isDigit(s[i]) && (s[i] < 'a' || s[i] > 'z') {
			return false
		}
	}
	return s != "" && len(s) <= api.MaxName
}
