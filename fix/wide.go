package fix

import (
	"math"
	"math/bits"

	"fuller/api"
)

// wide is a whole number of two words, the high one first: products of two numbers are too great for one.
type wide [2]uint64

// times is a product of two words.
func times(a, b uint64) wide {
	high, low := bits.Mul64(a, b)
	return wide{high, low}
}

// plus is w and a word.
func (w wide) plus(n uint64) wide {
	low, carry := bits.Add64(w[1], n, 0)
	return wide{w[0] + carry, low}
}

// above tells whether w is greater than v.
func (w wide) above(v wide) bool {
	if w[0] != v[0] {
		return w[0] > v[0]
	}
	return w[1] > v[1]
}

// size is how far a is from 0: a word, as that of the least number is no int.
func size(a int) uint64 {
	if a < 0 {
		return -uint64(a)
	}
	return uint64(a)
}

// teller tells wide sizes, divided by a word, as floored numbers: of what is below 0, or of what is not.
func teller(below bool) func(w wide, by uint64) (int, api.Errno) {
	most := uint64(math.MaxInt)
	if below {
		most++
	}
	return func(w wide, by uint64) (int, api.Errno) {
		if below {
			// Floored, what is below 0 goes away from 0.
			w = w.plus(by - 1)
		}
		if w[0] >= by {
			return 0, api.ErrOver
		}
		n, _ := bits.Div64(w[0], w[1], by)
		if n > most {
			return 0, api.ErrOver
		}
		if below {
			return int(-n), api.OK
		}
		return int(n), api.OK
	}
}

// root is the greatest word whose square is not above w; w is below 2^96.
func root(w wide) int {
	fits := func(n uint64) bool { return !times(n, n).above(w) }
	n := uint64(0)
	for bit := uint64(1) << 47; bit > 0; bit >>= 1 {
		if fits(n | bit) {
			n |= bit
		}
	}
	return int(n)
}
