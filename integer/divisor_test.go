package integer

import (
	"math"
	"math/big"
	"testing"

	"civiltime/api"
)

func TestP13Gcd(t *testing.T) {
	for _, c := range []struct{ a, b, g int }{
		{12, 18, 6}, {-12, 18, 6}, {12, -18, 6}, {-12, -18, 6}, {0, 7, 7}, {-7, 0, 7}, {1, 1, 1}, {146097, 7, 7},
		{0, 0, 0}, {math.MinInt, 0, 0}, {0, math.MinInt, 0}, {math.MinInt, math.MinInt, 0},
		{math.MinInt, 6, 2}, {math.MinInt, 1 << 62, 1 << 62}, {math.MinInt, math.MaxInt, 1},
	} {
		if g := Gcd(c.a, c.b); g != c.g {
			t.Errorf("Gcd(%d, %d) = %d", c.a, c.b, g)
		}
	}
	for _, a := range edges {
		for _, b := range edges {
			want := new(big.Int).GCD(nil, nil, new(big.Int).Abs(exact(a)), new(big.Int).Abs(exact(b)))
			if !want.IsInt64() {
				want.SetInt64(0)
			}
			if g := Gcd(a, b); exact(g).Cmp(want) != 0 {
				t.Errorf("Gcd(%d, %d) = %d", a, b, g)
			}
		}
	}
}

// exactLcm is the least common multiple of positive integers.
func exactLcm(a, b int) *big.Int {
	g := new(big.Int).GCD(nil, nil, exact(a), exact(b))
	return g.Mul(exact(a), g.Quo(exact(b), g))
}

func TestP13Lcm(t *testing.T) {
	for _, c := range []struct {
		a, b, l int
		e       api.Errno
	}{
		{28, 15, 420, api.OK}, {4, 6, 12, api.OK}, {1, 1, 1, api.OK}, {6, 6, 6, api.OK},
		{1 << 61, 1 << 62, 1 << 62, api.OK}, {math.MaxInt, math.MaxInt, math.MaxInt, api.OK}, {math.MaxInt, 7, math.MaxInt, api.OK},
		{1 << 62, 3, 0, api.ErrBig}, {math.MaxInt, 2, 0, api.ErrBig}, {1 << 32, 1<<31 + 1, 0, api.ErrBig},
		{0, 15, 0, api.ErrRange}, {15, 0, 0, api.ErrRange}, {0, 0, 0, api.ErrRange}, {-1, 15, 0, api.ErrRange}, {15, -1, 0, api.ErrRange},
		{math.MinInt, math.MaxInt, 0, api.ErrRange}, {math.MaxInt, math.MinInt, 0, api.ErrRange},
	} {
		if l, e := Lcm(c.a, c.b); l != c.l || e != c.e {
			t.Errorf("Lcm(%d, %d) = %d, %d", c.a, c.b, l, e)
		}
	}
	for _, a := range edges {
		for _, b := range edges {
			if a < 1 || b < 1 {
				continue
			}
			l, e := Lcm(a, b)
			checkExact(t, "Lcm", a, b, l, e, exactLcm(a, b))
		}
	}
}

func TestP14MeetExamples(t *testing.T) {
	for _, c := range []struct {
		a, m, b, n, x, l int
		ok               bool
	}{
		{2, 3, 3, 5, 8, 15, true}, {1, 4, 3, 6, 9, 12, true}, {-1, 7, -1, 11, 76, 77, true}, {100, 7, 100, 7, 2, 7, true},
		{0, 1, 0, 1, 0, 1, true}, {5, 1, 8, 9, 8, 9, true}, {math.MinInt, 1 << 62, 1, 2, 0, 0, false},
		{-1, math.MaxInt, 6, 7, math.MaxInt - 1, math.MaxInt, true}, {math.MinInt, math.MaxInt, math.MinInt, 1, math.MaxInt - 1, math.MaxInt, true},
		{1, 4, 2, 6, 0, 0, false}, {1, 2, 2, 2, 0, 0, false},
		{5, 0, 1, 2, 0, 0, false}, {1, 2, 5, 0, 0, 0, false}, {0, -3, 0, 5, 0, 0, false}, {0, 3, 0, -5, 0, 0, false},
		{0, math.MinInt, 0, math.MinInt, 0, 0, false}, {0, 1 << 62, 0, 3, 0, 0, false}, {0, math.MaxInt, 0, math.MaxInt - 1, 0, 0, false},
	} {
		if x, l, ok := Meet(c.a, c.m, c.b, c.n); x != c.x || l != c.l || ok != c.ok {
			t.Errorf("Meet(%d, %d, %d, %d) = %d, %d, %t", c.a, c.m, c.b, c.n, x, l, ok)
		}
	}
}

// search finds what Meet promises by trying all integers below the least common multiple, which is small.
func search(a, m, b, n int) (int, int, bool) {
	l := m
	for l%n != 0 {
		l += m
	}
	for x := range l {
		if (x-a)%m == 0 && (x-b)%n == 0 {
			return x, l, true
		}
	}
	return 0, 0, false
}

func TestP14MeetBySearch(t *testing.T) {
	for m := 1; m <= 12; m++ {
		for n := 1; n <= 12; n++ {
			for a := -13; a <= 13; a++ {
				for b := -13; b <= 13; b++ {
					x, l, ok := Meet(a, m, b, n)
					if wantX, wantL, want := search(a, m, b, n); x != wantX || l != wantL || ok != want {
						t.Fatalf("Meet(%d, %d, %d, %d) = %d, %d, %t", a, m, b, n, x, l, ok)
					}
				}
			}
		}
	}
}

// congruent reports whether x - a is a multiple of m.
func congruent(x, a, m int) bool {
	d := new(big.Int).Sub(exact(x), exact(a))
	return d.Rem(d, exact(m)).Sign() == 0
}

func TestP14MeetOfBigModuli(t *testing.T) {
	met := 0
	moduli := []int{1, 2, 6, 7, 49, 86400, 146097, 146097 * 86400, 1<<31 - 1, 1 << 31, 3037000493, 3037000499, 3037000500, 1 << 61, 1 << 62, math.MaxInt / 7, math.MaxInt - 1, math.MaxInt}
	for _, m := range moduli {
		for _, n := range moduli {
			l := exactLcm(m, n)
			for _, a := range edges {
				for _, b := range edges {
					x, gotL, ok := Meet(a, m, b, n)
					if want := l.IsInt64() && congruent(a, b, Gcd(m, n)); ok != want {
						t.Fatalf("Meet(%d, %d, %d, %d) = %d, %d, %t", a, m, b, n, x, gotL, ok)
					}
					if !ok && (x != 0 || gotL != 0) {
						t.Fatalf("Meet(%d, %d, %d, %d) = %d, %d without a solution", a, m, b, n, x, gotL)
					}
					// Solutions repeat after the least common multiple, so the one below it is the least.
					if ok && (exact(gotL).Cmp(l) != 0 || x < 0 || x >= gotL || !congruent(x, a, m) || !congruent(x, b, n)) {
						t.Fatalf("Meet(%d, %d, %d, %d) = %d, %d", a, m, b, n, x, gotL)
					}
					if ok {
						met++
					}
				}
			}
		}
	}
	if met == 0 {
		t.Error("no two congruences met")
	}
}
