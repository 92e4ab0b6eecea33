// Package num is layer 1: numbers that are reckoned with, and held against each other.
package num

import (
	"cmp"

	"sibyl/api"
)

// Do reckons a and b by op; it tells false where there is no such op, or nothing to divide by.
func Do(op int, a, b int64) (int64, bool) {
	switch op {
	case api.Sub:
		// Going round at 64 bits, a less b is a and the contrary of b, the least number too.
		b = -b
		fallthrough
	case api.Add:
		return a + b, true
	case api.Mul:
		return a * b, true
	case api.Div, api.Rem:
		return divide(op, a, b)
	}
	return 0, false
}

func divide(op int, a, b int64) (int64, bool) {
	if b == 0 {
		return 0, false
	}
	if op == api.Div {
		return a / b, true
	}
	return a % b, true
}

// Test holds a against b by op.
func Test(op int, a, b int64) bool {
	// More is less, the other way round; so is not less.
	switch op {
	case api.Gt:
		a, b = b, a
		fallthrough
	case api.Lt:
		return a < b
	case api.Ge:
		a, b = b, a
		fallthrough
	case api.Le:
		return a <= b
	case api.Eq:
		return a == b
	case api.Ne:
		return a != b
	}
	return false
}

// Clamp keeps x from low to high; low goes first, where it is above high.
func Clamp[T cmp.Ordered](x, low, high T) T {
	if x < low {
		return low
	}
	if x > high {
		return high
	}
	return x
}
