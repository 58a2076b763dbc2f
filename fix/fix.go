// Package fix is layer 1: numbers of so many parts: see shared/doc/01-fix.md.
package fix

import (
	"math/bits"

	"fuller/api"
)

// Add is a and b.
func Add(a, b int) (int, api.Errno) {
	sum := a + b
	if (sum < a) != (b < 0) {
		return 0, api.ErrOver
	}
	return sum, api.OK
}

// Sub is a less b.
func Sub(a, b int) (int, api.Errno) {
	left := a - b
	if (left > a) != (b < 0) {
		return 0, api.ErrOver
	}
	return left, api.OK
}

// Neg is 0 less a.
func Neg(a int) (int, api.Errno) {
	return Sub(0, a)
}

// Mul is a times b, divided by One, floored.
func Mul(a, b int) (int, api.Errno) {
	tell := teller((a < 0) != (b < 0))
	return tell(times(size(a), size(b)), api.One)
}

// Div is a times One, divided by b, floored.
func Div(a, b int) (int, api.Errno) {
	if b == 0 {
		return 0, api.ErrZero
	}
	tell := teller((a < 0) != (b < 0))
	return tell(times(size(a), api.One), size(b))
}

// Sqrt is the greatest whole number whose square is not above a times One.
func Sqrt(a int) (int, api.Errno) {
	if a < 0 {
		return 0, api.ErrNeg
	}
	return root(times(size(a), api.One)), api.OK
}

// Pow is 2 to the power of a, between whole powers on a line.
func Pow(a int) (int, api.Errno) {
	whole, part := split(a)
	return scale(api.One+part, whole)
}

// Slope is how steep Pow is at a, to its right.
func Slope(a int) (int, api.Errno) {
	whole, _ := split(a)
	return scale(api.One, whole)
}

// split is a divided by One, floored, and what that leaves.
func split(a int) (whole, part int) {
	whole = a / api.One
	part = a % api.One
	if part < 0 {
		whole--
		part += api.One
	}
	return whole, part
}

// scale is n, that is above 0, times 2 to the power of k, floored.
func scale(n, k int) (int, api.Errno) {
	if k < 0 {
		return n >> -k, api.OK
	}
	// The highest bit is the sign's: n must keep one 0 ahead of it.
	if k >= bits.LeadingZeros64(uint64(n)) {
		return 0, api.ErrOver
	}
	return n << k, api.OK
}
