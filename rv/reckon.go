package rv

import (
	"math"
)

// How many bits a register has.
const regBits = 64

// quotient is a divided by b, downwards; by 0, what the machine has for that.
func quotient(a, b uint64) uint64 {
	if b == 0 {
		return math.MaxUint64
	}
	return a / b
}

// rest is what is left of a divided by b.
func rest(a, b uint64) uint64 {
	if b == 0 {
		return a
	}
	return a % b
}

// below is 1, if a is below b, else 0.
func below(a, b uint64) uint64 {
	if a < b {
		return 1
	}
	return 0
}
