// Package integer is layer 1, exact integer arithmetic: see shared/doc/01-integer.md.
package integer

import (
	"math"
	"math/bits"

	"civiltime/api"
)

// Div returns the floor quotient of a and b, and the remainder, which has the sign of b.
func Div(a, b int) (int, int, api.Errno) {
	switch {
	case b == 0:
		return 0, 0, api.ErrZero
	case a == math.MinInt && b == -1:
		return 0, 0, api.ErrBig
	}
	q, r := a/b, a%b
	// Go rounds towards zero, which is upwards exactly where the remainder has not the sign of b.
	if r != 0 && (r < 0) != (b < 0) {
		q, r = q-1, r+b
	}
	return q, r, api.OK
}

// Floor returns the floor quotient of a and b, or 0 if there is none.
func Floor(a, b int) int {
	q, _, _ := Div(a, b)
	return q
}

// Mod returns the remainder of a and b. It is 0 where Div has an error: that is also the remainder of -2^63 and -1.
func Mod(a, b int) int {
	_, r, _ := Div(a, b)
	return r
}

// Add returns the exact sum.
func Add(a, b int) (int, api.Errno) {
	switch {
	case b > 0 && a > math.MaxInt-b, b < 0 && a < math.MinInt-b:
		return 0, api.ErrBig
	}
	return a + b, api.OK
}

// Mul returns the exact product.
func Mul(a, b int) (int, api.Errno) {
	negative := (a < 0) != (b < 0)
	high, low := bits.Mul64(magnitude(a), magnitude(b))
	switch {
	case high != 0:
		return 0, api.ErrBig
	case !negative && low > math.MaxInt64:
		return 0, api.ErrBig
	case negative && low > 1<<63:
		return 0, api.ErrBig
	case negative:
		return int(-low), api.OK
	}
	return int(low), api.OK
}

// magnitude returns the absolute value of n. It is unsigned because that of -2^63 is not an int.
func magnitude(n int) uint64 {
	if n < 0 {
		return -uint64(n)
	}
	return uint64(n)
}
