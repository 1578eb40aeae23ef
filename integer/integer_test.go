package integer

import (
	"math"
	"math/big"
	"testing"

	"civiltime/api"
)

// edges are integers near the places where arithmetic of 64 bits goes wrong, and small ones of both signs.
var edges = []int{
	math.MinInt, math.MinInt + 1, math.MinInt + 2, -1 << 62, -1<<62 - 1, -3037000500, -3037000499, -1 << 32, -1 << 31, -86400, -12, -7, -3, -2, -1,
	0, 1, 2, 3, 5, 7, 12, 86400, 146097, 1<<31 - 1, 1 << 31, 1 << 32, 3037000499, 3037000500, 1 << 42, 1<<62 - 1, 1 << 62, 1<<62 + 1, math.MaxInt - 1, math.MaxInt,
}

func exact(n int) *big.Int { return big.NewInt(int64(n)) }

// floorDiv is the floor quotient and the remainder by the definition of the chapter.
func floorDiv(a, b int) (*big.Int, *big.Int) {
	q, r := new(big.Int).QuoRem(exact(a), exact(b), new(big.Int))
	if r.Sign() != 0 && r.Sign() != exact(b).Sign() {
		q.Sub(q, big.NewInt(1))
	}
	return q, new(big.Int).Sub(exact(a), new(big.Int).Mul(q, exact(b)))
}

func TestP11DivFloorMod(t *testing.T) {
	for _, c := range []struct {
		a, b, q, r int
		e          api.Errno
	}{
		{7, 2, 3, 1, api.OK}, {-7, 2, -4, 1, api.OK}, {7, -2, -4, -1, api.OK}, {-7, -2, 3, -1, api.OK},
		{8, 2, 4, 0, api.OK}, {-8, 2, -4, 0, api.OK}, {8, -2, -4, 0, api.OK}, {0, -5, 0, 0, api.OK},
		{1, math.MinInt, -1, math.MinInt + 1, api.OK}, {math.MinInt, math.MinInt, 1, 0, api.OK},
		{math.MinInt, 1, math.MinInt, 0, api.OK}, {math.MaxInt, -1, -math.MaxInt, 0, api.OK},
		{5, 0, 0, 0, api.ErrZero}, {0, 0, 0, 0, api.ErrZero}, {math.MinInt, 0, 0, 0, api.ErrZero},
		{math.MinInt, -1, 0, 0, api.ErrBig},
	} {
		if q, r, e := Div(c.a, c.b); q != c.q || r != c.r || e != c.e {
			t.Errorf("Div(%d, %d) = %d, %d, %d", c.a, c.b, q, r, e)
		}
		if q, r := Floor(c.a, c.b), Mod(c.a, c.b); q != c.q || r != c.r {
			t.Errorf("Floor and Mod of %d and %d = %d, %d", c.a, c.b, q, r)
		}
	}
}

func TestP11EdgesByDefinition(t *testing.T) {
	for _, a := range edges {
		for _, b := range edges {
			if b == 0 || a == math.MinInt && b == -1 {
				continue
			}
			q, r, e := Div(a, b)
			wantQ, wantR := floorDiv(a, b)
			if e != api.OK || exact(q).Cmp(wantQ) != 0 || exact(r).Cmp(wantR) != 0 {
				t.Errorf("Div(%d, %d) = %d, %d, %d", a, b, q, r, e)
			}
			if Floor(a, b) != q || Mod(a, b) != r {
				t.Errorf("Floor and Mod of %d and %d = %d, %d", a, b, Floor(a, b), Mod(a, b))
			}
		}
	}
}

// checkExact compares a checked result with the exact one.
func checkExact(t *testing.T, name string, a, b, got int, e api.Errno, want *big.Int) {
	t.Helper()
	switch {
	case want.IsInt64() && (e != api.OK || exact(got).Cmp(want) != 0):
		t.Errorf("%s(%d, %d) = %d, %d; want %s", name, a, b, got, e, want)
	case !want.IsInt64() && (e != api.ErrBig || got != 0):
		t.Errorf("%s(%d, %d) = %d, %d; want ErrBig", name, a, b, got, e)
	}
}

func TestP12AddMul(t *testing.T) {
	for _, a := range edges {
		for _, b := range edges {
			sum, e := Add(a, b)
			checkExact(t, "Add", a, b, sum, e, new(big.Int).Add(exact(a), exact(b)))
			product, e := Mul(a, b)
			checkExact(t, "Mul", a, b, product, e, new(big.Int).Mul(exact(a), exact(b)))
		}
	}
}

func TestP12Bounds(t *testing.T) {
	for _, c := range []struct {
		f       func(a, b int) (int, api.Errno)
		a, b, n int
		e       api.Errno
	}{
		{Add, math.MaxInt, 0, math.MaxInt, api.OK}, {Add, math.MaxInt, 1, 0, api.ErrBig}, {Add, math.MinInt, -1, 0, api.ErrBig},
		{Add, math.MinInt, math.MaxInt, -1, api.OK}, {Add, math.MinInt, math.MinInt, 0, api.ErrBig}, {Add, 20512, 31, 20543, api.OK},
		{Mul, -1 << 31, 1 << 32, math.MinInt, api.OK}, {Mul, 1 << 31, 1 << 32, 0, api.ErrBig}, {Mul, -1 << 32, -1 << 32, 0, api.ErrBig},
		{Mul, math.MinInt, -1, 0, api.ErrBig}, {Mul, math.MinInt, 1, math.MinInt, api.OK}, {Mul, math.MinInt, 0, 0, api.OK},
		{Mul, 3 << 61, 3, 0, api.ErrBig}, {Mul, -3, 3 << 60, 0, api.ErrBig}, {Mul, -20512, 86400, -1772236800, api.OK},
	} {
		if n, e := c.f(c.a, c.b); n != c.n || e != c.e {
			t.Errorf("of %d and %d: %d, %d; want %d, %d", c.a, c.b, n, e, c.n, c.e)
		}
	}
}
