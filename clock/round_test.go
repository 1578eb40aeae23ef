package clock

import (
	"math"
	"testing"

	"civiltime/api"
)

func TestP46Round(t *testing.T) {
	for _, c := range []struct{ n, unit, mode, m int }{
		{100, 60, 1, 60}, {100, 60, 2, 120}, {100, 60, 3, 120}, {89, 60, 3, 60}, {90, 60, 3, 120}, {91, 60, 3, 120},
		{-100, 60, 1, -120}, {-100, 60, 2, -60}, {-100, 60, 3, -120}, {-89, 60, 3, -60}, {-90, 60, 3, -60}, {-91, 60, 3, -120}, {-1, 60, 1, -60}, {-1, 60, 2, 0}, {-1, 60, 3, 0}, {1, 60, 1, 0}, {1, 60, 2, 60}, {1, 60, 3, 0},
		{0, 60, 1, 0}, {0, 60, 2, 0}, {0, 60, 3, 0}, {120, 60, 1, 120}, {120, 60, 2, 120}, {120, 60, 3, 120}, {-120, 60, 1, -120}, {-120, 60, 2, -120}, {-120, 60, 3, -120},
		// Halves of odd units lie between numbers; with the unit 1 nothing is rounded.
		{7, 15, 3, 0}, {8, 15, 3, 15}, {-7, 15, 3, 0}, {-8, 15, 3, -15}, {5, 1, 1, 5}, {-5, 1, 2, -5}, {5, 1, 3, 5}, {1, 2, 3, 2}, {-1, 2, 3, 0},
		{api.MaxLine, 1, 2, api.MaxLine}, {-api.MaxLine, 1, 1, -api.MaxLine}, {api.MaxLine, api.MaxLine, 2, api.MaxLine}, {-api.MaxLine, api.MaxLine, 1, -api.MaxLine}, {1, api.MaxLine, 2, api.MaxLine}, {-1, api.MaxLine, 1, -api.MaxLine},
		{api.MaxLine / 2, api.MaxLine, 3, api.MaxLine}, {api.MaxLine/2 - 1, api.MaxLine, 3, 0}, {-api.MaxLine / 2, api.MaxLine, 3, 0}, {-api.MaxLine/2 - 1, api.MaxLine, 3, -api.MaxLine},
		{api.MaxLine, 86400, 1, 50903316 * 86400}, {api.MaxLine, 86400, 3, 50903316 * 86400}, {-api.MaxLine, 86400, 2, -50903316 * 86400}, {api.MaxLine, api.MaxLine - 1, 1, api.MaxLine - 1}, {api.MaxLine, api.MaxLine - 1, 3, api.MaxLine - 1},
	} {
		if m, e := Round(c.n, c.unit, c.mode); m != c.m || e != api.OK {
			t.Errorf("Round(%d, %d, %d) = %d, %d; want %d", c.n, c.unit, c.mode, m, e, c.m)
		}
	}
}

func TestP46RoundErrors(t *testing.T) {
	for _, c := range []struct {
		n, unit, mode int
		e             api.Errno
	}{
		{0, 0, 1, api.ErrArg}, {0, -1, 1, api.ErrArg}, {0, -60, 3, api.ErrArg}, {0, api.MaxLine + 1, 1, api.ErrArg}, {0, math.MinInt, 2, api.ErrArg}, {0, math.MaxInt, 2, api.ErrArg},
		{0, 1, 0, api.ErrArg}, {0, 1, 4, api.ErrArg}, {0, 1, -1, api.ErrArg}, {0, 1, math.MinInt, api.ErrArg}, {0, 1, math.MaxInt, api.ErrArg},
		// With several errors, the one of the unit or the mode is the first.
		{api.MaxLine + 1, 0, 1, api.ErrArg}, {math.MinInt, 1, 0, api.ErrArg}, {math.MaxInt, 60, 4, api.ErrArg}, {api.MaxLine, 86400, 5, api.ErrArg},
		{api.MaxLine + 1, 1, 1, api.ErrRange}, {-api.MaxLine - 1, 1, 2, api.ErrRange}, {api.MaxLine + 1, 86400, 1, api.ErrRange}, {-api.MaxLine - 1, 86400, 2, api.ErrRange}, {math.MinInt, 1, 1, api.ErrRange}, {math.MinInt, 60, 2, api.ErrRange}, {math.MaxInt, 1, 3, api.ErrRange}, {math.MaxInt, api.MaxLine, 1, api.ErrRange},
		// Only the result is too big.
		{api.MaxLine, 86400, 2, api.ErrRange}, {-api.MaxLine, 86400, 1, api.ErrRange}, {-api.MaxLine, 60, 1, api.ErrRange}, {api.MaxLine, 60, 2, api.ErrRange}, {api.MaxLine, api.MaxLine - 1, 2, api.ErrRange}, {-api.MaxLine, api.MaxLine - 1, 1, api.ErrRange},
		{api.MaxLine, 5, 3, api.ErrRange}, {-api.MaxLine, 5, 3, api.ErrRange}, {api.MaxLine - 1, api.MaxLine/2 + 1, 3, api.ErrRange},
	} {
		if m, e := Round(c.n, c.unit, c.mode); m != 0 || e != c.e {
			t.Errorf("Round(%d, %d, %d) = %d, %d; want the error %d", c.n, c.unit, c.mode, m, e, c.e)
		}
	}
}

// TestP46Definition looks for the multiples by counting, for small numbers.
func TestP46Definition(t *testing.T) {
	for unit := 1; unit <= 31; unit++ {
		for n := -200; n <= 200; n++ {
			low, high := n, n
			for low%unit != 0 {
				low--
			}
			for high%unit != 0 {
				high++
			}
			near := low
			if high-n <= n-low {
				near = high
			}
			for mode, want := range []int{1: low, 2: high, 3: near} {
				if mode == 0 {
					continue
				}
				if m, e := Round(n, unit, mode); m != want || e != api.OK {
					t.Fatalf("Round(%d, %d, %d) = %d, %d; want %d", n, unit, mode, m, e, want)
				}
			}
		}
	}
}

func TestP47RoundingIsMonotone(t *testing.T) {
	for _, unit := range []int{1, 2, 7, 60, 3599, 3600, 86400, 604800, api.MaxLine / 3, api.MaxLine - 1, api.MaxLine} {
		for mode := 1; mode <= 3; mode++ {
			for _, start := range []int{-api.MaxLine, -3*86400 - 500, -500, 86400 - 500, api.MaxLine / 2, api.MaxLine - 1000} {
				before, some := 0, false
				for n := start; n <= start+1000; n++ {
					m, e := Round(n, unit, mode)
					if e != api.OK {
						continue
					}
					if m%unit != 0 || some && m < before {
						t.Fatalf("Round(%d, %d, %d) = %d, after %d", n, unit, mode, m, before)
					}
					if again, e := Round(m, unit, mode); again != m || e != api.OK {
						t.Fatalf("Round(%d, %d, %d) = %d, %d", m, unit, mode, again, e)
					}
					before, some = m, true
				}
			}
		}
	}
}
