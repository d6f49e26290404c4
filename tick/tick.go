// Package tick is layer 1: whole numbers from 0 to api.Max, whose sums and
// products stop at api.Max and whose differences stop at 0.
package tick

import "spigot/api"

// Form: is t a tick?
func Form(t int64) bool { return t >= 0 && t <= api.Max }

// Clamp: the tick nearest to n.
func Clamp(n int64) int64 {
	if n < 0 {
		return 0
	}
	if n > api.Max {
		return api.Max
	}
	return n
}

// Add: the sum, or api.Max, if that is less.
func Add(a, b int64) (int64, api.Errno) {
	if !Form(a) || !Form(b) {
		return 0, api.ErrArg
	}
	// Two ticks make at most 2^63 - 2: the sum can't wrap round.
	return Clamp(a + b), api.OK
}

// Sub: the difference, or 0, if that is greater.
func Sub(a, b int64) (int64, api.Errno) {
	if !Form(a) || !Form(b) {
		return 0, api.ErrArg
	}
	return Clamp(a - b), api.OK
}

// Mul: the product, or api.Max, if that is less.
func Mul(a, b int64) (int64, api.Errno) {
	if !Form(a) || !Form(b) {
		return 0, api.ErrArg
	}
	// Asked by a division, because the product itself may wrap round.
	if a != 0 && b > api.Max/a {
		return api.Max, api.OK
	}
	return a * b, api.OK
}

// Div: the quotient rounded down, and the remainder.
func Div(a, b int64) (int64, int64, api.Errno) {
	if !Form(a) || !Form(b) || b == 0 {
		return 0, 0, api.ErrArg
	}
	return a / b, a % b, api.OK
}

// Ceil: the quotient rounded up.
func Ceil(a, b int64) (int64, api.Errno) {
	quotient, rest, e := Div(a, b)
	if e != api.OK {
		return 0, e
	}
	if rest > 0 {
		quotient++
	}
	return quotient, api.OK
}
