// Package num is layer 1: see shared/doc/01-num.md.
package num

import "easel/api"

// Add adds: P1.1.
func Add(a, b int64) (int64, error) {
	sum := a + b
	// A sum that fits lies on that side of a to which b points.
	if (sum < a) != (b < 0) {
		return 0, api.ErrRange
	}
	return sum, nil
}

// Sub takes off: P1.1.
func Sub(a, b int64) (int64, error) {
	diff := a - b
	// Not by Add of -b: the least int64 has no negative.
	if (diff > a) != (b < 0) {
		return 0, api.ErrRange
	}
	return diff, nil
}

// Floor divides: P1.2.
func Floor(a, b int64) (int64, error) {
	if b < 1 {
		return 0, api.ErrArg
	}
	quotient := a / b
	// Go rounds towards 0, which is upwards below it. One less always fits: there is no rest where b is 1.
	if a%b < 0 {
		quotient--
	}
	return quotient, nil
}

// Down is a multiple: P1.2.
func Down(a, b int64) (int64, error) {
	if b < 1 {
		return 0, api.ErrArg
	}
	rest := a % b
	// Go's rest has the sign of a; what stands above a multiple is never below 0.
	if rest < 0 {
		rest += b
	}
	return Sub(a, rest)
}
