package conf

import (
	"strconv"
	"strings"

	"spigot/api"
	"spigot/word"
)

// Float: the float64 nearest to a decimal number.
func Float(s string) (float64, api.Errno) {
	if len(s) > api.MaxLine {
		return 0, api.ErrLong
	}
	if !isNumber(s) {
		return 0, api.ErrText
	}
	// The one error that is left is that of a number beyond the greatest float64,
	// and beside it stands the infinity that is to be answered.
	x, _ := strconv.ParseFloat(s, 64)
	return x, api.OK
}

// isNumber: is it a number's text? (strconv takes others, too.)
func isNumber(s string) bool {
	switch s {
	case "nan", "inf", "-inf":
		return true
	}
	number, tens, scaled := strings.Cut(strings.TrimPrefix(s, "-"), "e")
	if scaled && !word.Digits(strings.TrimPrefix(tens, "-")) {
		return false
	}
	ahead, behind, pointed := strings.Cut(number, ".")
	return word.Digits(ahead) && (!pointed || word.Digits(behind))
}
