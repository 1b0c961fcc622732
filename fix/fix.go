// Package fix is layer 1: numbers that stop at a cap, and quotients held against each other. See shared/doc/01-fix.md.
package fix

import (
	"cmp"
	"math/bits"

	"usher/api"
)

// capped is what a number counts as.
func capped(a uint64) uint64 { return min(a, api.Cap) }

// Add of two: api.Cap at the most.
func Add(a, b uint64) uint64 {
	// Two numbers of at most 2^62 have a sum that doesn't wrap round.
	return capped(capped(a) + capped(b))
}

// Sub of two: 0 at the least.
func Sub(a, b uint64) uint64 {
	a, b = capped(a), capped(b)
	return a - min(a, b)
}

// Mul of two: api.Cap at the most.
func Mul(a, b uint64) uint64 { return MulDiv(a, b, 1) }

// MulDiv: a times b, divided by c, rounded down: api.Cap at the most, and if c is 0.
func MulDiv(a, b, c uint64) uint64 {
	high, low := bits.Mul64(capped(a), capped(b))
	c = capped(c)
	if high >= c {
		// c is 0, or the quotient is 2^64 or more: Div64 would panic.
		return api.Cap
	}
	quotient, _ := bits.Div64(high, low, c)
	return capped(quotient)
}

// Cmp holds a over b against c over d: a number over 0 is the greatest.
func Cmp(a, b, c, d uint64) int {
	switch {
	case b == 0 && d == 0:
		return 0
	case b == 0:
		return 1
	case d == 0:
		return -1
	}
	return compareProducts(a, d, c, b)
}

// compareProducts holds a times b against c times d, in 128 bits, so that nothing is lost.
func compareProducts(a, b, c, d uint64) int {
	highLeft, lowLeft := bits.Mul64(a, b)
	highRight, lowRight := bits.Mul64(c, d)
	if highLeft != highRight {
		return cmp.Compare(highLeft, highRight)
	}
	return cmp.Compare(lowLeft, lowRight)
}
