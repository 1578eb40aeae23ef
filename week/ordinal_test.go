package week

import (
	"math"
	"testing"

	"civiltime/api"
)

func TestP36Examples(t *testing.T) {
	for _, c := range []struct{ day, year, n int }{
		{0, 1970, 1}, {-1, 1969, 365}, {20454, 2026, 1}, {20512, 2026, 59}, {20088, 2024, 366}, {19782, 2024, 60}, {11016, 2000, 60}, {11322, 2000, 366}, {-25203, 1900, 365}, {-25202, 1901, 1},
		{api.MinDay, 1, 1}, {api.MaxDay - 1, 9999, 365},
	} {
		if year, n, e := Ordinal(c.day); year != c.year || n != c.n || e != api.OK {
			t.Errorf("Ordinal(%d) = %d, %d, %d", c.day, year, n, e)
		}
		if day, e := FromOrdinal(c.year, c.n); day != c.day || e != api.OK {
			t.Errorf("FromOrdinal(%d, %d) = %d, %d", c.year, c.n, day, e)
		}
	}
}

func TestP36Errors(t *testing.T) {
	for _, day := range []int{math.MinInt, api.MinTime, api.MinDay - 1, api.MaxDay, api.MaxDay + 1, api.MaxTime, math.MaxInt} {
		if year, n, e := Ordinal(day); year != 0 || n != 0 || e != api.ErrRange {
			t.Errorf("Ordinal(%d) = %d, %d, %d", day, year, n, e)
		}
	}
	for _, c := range [][2]int{
		{2025, 366}, {2024, 367}, {1900, 366}, {2000, 367}, {9999, 366}, {2024, 0}, {2024, -1}, {2024, math.MinInt}, {2024, math.MaxInt}, {9999, math.MaxInt}, {1, math.MinInt},
		{0, 1}, {0, 366}, {-1, 1}, {-4, 1}, {10000, 1}, {10001, 1}, {math.MinInt, 1}, {math.MaxInt, 1}, {math.MinInt, math.MinInt}, {math.MaxInt, math.MaxInt},
	} {
		if day, e := FromOrdinal(c[0], c[1]); day != 0 || e != api.ErrRange {
			t.Errorf("FromOrdinal(%d, %d) = %d, %d", c[0], c[1], day, e)
		}
	}
}

func TestP36AllDays(t *testing.T) {
	day := api.MinDay
	for year := 1; year <= 9999; year++ {
		for n := 1; n <= yearDays(year); n++ {
			if y, i, e := Ordinal(day); y != year || i != n || e != api.OK {
				t.Fatalf("Ordinal(%d) = %d, %d, %d; want %d, %d", day, y, i, e, year, n)
			}
			if x, e := FromOrdinal(year, n); x != day || e != api.OK {
				t.Fatalf("FromOrdinal(%d, %d) = %d, %d; want %d", year, n, x, e, day)
			}
			day++
		}
		for _, n := range []int{-1, 0, yearDays(year) + 1, yearDays(year) + 2} {
			if x, e := FromOrdinal(year, n); x != 0 || e != api.ErrRange {
				t.Fatalf("FromOrdinal(%d, %d) = %d, %d", year, n, x, e)
			}
		}
	}
	if day != api.MaxDay {
		t.Errorf("the last year ends at %d", day)
	}
}
