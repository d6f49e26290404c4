// Package wide holds whole numbers of 128 bits: those that stand between a
// float64 that was taken apart and the tick that it means.
package wide

import (
	"math/bits"

	"spigot/api"
)

// The ways to round to a whole number.
const (
	Down    = iota // to the greatest that isn't above
	Up             // to the least that isn't below
	Nearest        // to the nearest, ties to the even one
)

// Num is Hi * 2^64 + Lo.
type Num struct {
	Hi uint64
	Lo uint64
}

// Product: a * b.
func Product(a, b uint64) Num {
	hi, lo := bits.Mul64(a, b)
	return Num{hi, lo}
}

// Scale: n * 2^e, rounded by how; false, if it has more than 128 bits.
func (n Num) Scale(e, how int) (Num, bool) {
	if e < 0 {
		return n.shrink(uint(-e), how), true
	}
	scaled := n.left(uint(e))
	if scaled.right(uint(e)) != n {
		return Num{}, false
	}
	return scaled, true
}

// shrink: n / 2^by, rounded by how.
func (n Num) shrink(by uint, how int) Num {
	whole := n.right(by)
	if whole.left(by) == n {
		return whole
	}
	// Of what is cut off, the highest bit is a half; all below it breaks a tie.
	last := n.right(by - 1)
	half := last.Lo&1 == 1
	tie := half && last.left(by-1) == n
	odd := whole.Lo&1 == 1
	if how == Up || how == Nearest && half && (odd || !tie) {
		return whole.next()
	}
	return whole
}

// Ceil: n / d, rounded up. d is not 0.
func (n Num) Ceil(d uint64) Num {
	lo, rest := bits.Div64(n.Hi%d, n.Lo, d)
	quotient := Num{n.Hi / d, lo}
	if rest > 0 {
		return quotient.next()
	}
	return quotient
}

// Tick: n as a tick; false, if it is above api.Max.
func (n Num) Tick() (int64, bool) {
	if n.Hi > 0 || n.Lo > api.Max {
		return 0, false
	}
	return int64(n.Lo), true
}

func (n Num) next() Num {
	lo, carry := bits.Add64(n.Lo, 1, 0)
	return Num{n.Hi + carry, lo}
}

// left, right: the bits that are shifted beyond an end are lost.
func (n Num) left(by uint) Num {
	if by >= 64 {
		return Num{n.Lo << (by - 64), 0}
	}
	return Num{n.Hi<<by | n.Lo>>(64-by), n.Lo << by}
}

func (n Num) right(by uint) Num {
	if by >= 64 {
		return Num{0, n.Hi >> (by - 64)}
	}
	return Num{n.Hi >> by, n.Lo>>by | n.Hi<<(64-by)}
}
