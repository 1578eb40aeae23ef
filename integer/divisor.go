package integer

import (
	"math"
	"math/bits"

	"civiltime/api"
)

// Gcd returns the greatest common divisor; 0 if both arguments are 0, or if it would be 2^63.
func Gcd(a, b int) int {
	x, y := magnitude(a), magnitude(b)
	for y != 0 {
		x, y = y, x%y
	}
	if x > math.MaxInt64 {
		return 0
	}
	return int(x)
}

// Lcm returns the least common multiple of positive integers.
func Lcm(a, b int) (int, api.Errno) {
	switch {
	case a < 1 || b < 1:
		return 0, api.ErrRange
	}
	return Mul(a/Gcd(a, b), b)
}

// Meet returns the least integer, not negative, that is congruent to a modulo m and to b modulo n, and the least common multiple of m and n, by which the solutions repeat.
func Meet(a, m, b, n int) (int, int, bool) {
	l, e := Lcm(m, n)
	if e != api.OK {
		return 0, 0, false
	}
	a, b = Mod(a, m), Mod(b, n)
	g := Gcd(m, n)
	if (b-a)%g != 0 {
		return 0, 0, false
	}
	// The solution is a + k*m for the least k with k*(m/g) congruent to (b-a)/g modulo n/g. As k < n/g and a < m, it is below l.
	k := productMod(Mod((b-a)/g, n/g), inverse(m/g, n/g), n/g)
	return a + k*m, l, true
}

// inverse returns the integer x from 0 to m - 1 for which a*x is congruent to 1 modulo m; a and m are positive and have no common divisor.
func inverse(a, m int) int {
	// In every round a*x is congruent to r, and a*y to s, modulo m; neither x nor y exceeds m.
	r, s := a, m
	x, y := 1, 0
	for s != 0 {
		q := r / s
		r, s = s, r-q*s
		x, y = y, x-q*y
	}
	return Mod(x, m)
}

// productMod returns the remainder of a*b modulo m, also where the product is not an int; a and b are not negative, m is positive.
func productMod(a, b, m int) int {
	high, low := bits.Mul64(uint64(a), uint64(b))
	return int(bits.Rem64(high, low, uint64(m)))
}
