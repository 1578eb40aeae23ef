package feast

import (
	"math"
	"slices"
	"strconv"
	"testing"

	"civiltime/api"
	"civiltime/civil"
)

func TestP83Examples(t *testing.T) {
	for _, c := range []struct {
		year, offset int
		want         api.Date
	}{
		{2024, 0, date(2024, 3, 31)}, {2024, -47, date(2024, 2, 13)}, {2024, -46, date(2024, 2, 14)}, {2024, -7, date(2024, 3, 24)}, {2024, -2, date(2024, 3, 29)}, {2024, 1, date(2024, 4, 1)}, {2024, 39, date(2024, 5, 9)}, {2024, 49, date(2024, 5, 19)}, {2024, 60, date(2024, 5, 30)},
		// days of the years before and after
		{2024, 300, date(2025, 1, 25)}, {2024, 275, date(2024, 12, 31)}, {2024, 276, date(2025, 1, 1)}, {2024, -90, date(2024, 1, 1)}, {2024, -91, date(2023, 12, 31)}, {2024, 400, date(2025, 5, 5)}, {2024, -400, date(2023, 2, 25)},
		// days around both ends of the line, with Easter on 0001-04-01 and 9999-03-28
		{1, -90, date(1, 1, 1)}, {1, -89, date(1, 1, 2)}, {1, 400, date(2, 5, 6)}, {9999, 278, date(9999, 12, 31)}, {9999, 277, date(9999, 12, 30)}, {9999, -400, date(9998, 2, 21)},
	} {
		if day, e := Moveable(c.year, c.offset); day != dayOf(t, c.want) || e != api.OK {
			t.Errorf("Moveable(%d, %d) = %d, %d; want %v", c.year, c.offset, day, e, c.want)
		}
	}
}

func TestP83AllOffsets(t *testing.T) {
	for year := 1; year <= 9999; year++ {
		for offset := -402; offset <= 402; offset++ {
			want, wantE := easters()[year]+offset, api.OK
			if offset < -400 || offset > 400 || want < -719162 || want > 2932896 {
				want, wantE = 0, api.ErrRange
			}
			if day, e := Moveable(year, offset); day != want || e != wantE {
				t.Fatalf("Moveable(%d, %d) = %d, %d; want %d, %d", year, offset, day, e, want, wantE)
			}
		}
	}
}

func TestP83Errors(t *testing.T) {
	refused := func(year, offset int) {
		t.Helper()
		if day, e := Moveable(year, offset); day != 0 || e != api.ErrRange {
			t.Errorf("Moveable(%d, %d) = %d, %d", year, offset, day, e)
		}
	}
	badOffsets := []int{math.MinInt, math.MinInt + 1, -1 << 32, api.MinDay, -500, -402, -401, 401, 402, 500, api.MaxDay, 1 << 32, math.MaxInt - 19813, math.MaxInt - 1, math.MaxInt}
	for _, year := range badYears {
		for _, offset := range append(badOffsets, -400, -2, 0, 39, 400) {
			refused(year, offset)
		}
	}
	for _, offset := range badOffsets {
		for _, year := range []int{1, 2, 1818, 2024, 9998, 9999} {
			refused(year, offset)
		}
	}
	refused(1, -91)
	refused(1, -400)
	refused(9999, 279)
	refused(9999, 400)
}

func TestP84Examples(t *testing.T) {
	for _, c := range []struct{ day, year, offset int }{
		{19813, 2024, 0}, {0, 1970, -87}, {dayOf(t, date(2024, 2, 13)), 2024, -47}, {dayOf(t, date(2024, 5, 9)), 2024, 39}, {dayOf(t, date(2023, 12, 31)), 2023, 266}, {dayOf(t, date(2024, 1, 1)), 2024, -90}, {dayOf(t, date(2024, 12, 31)), 2024, 275}, {dayOf(t, date(2025, 1, 1)), 2025, -109},
		{api.MinDay, 1, -90}, {api.MaxDay - 1, 9999, 278},
	} {
		if year, offset, e := Find(c.day); year != c.year || offset != c.offset || e != api.OK {
			t.Errorf("Find(%d) = %d, %d, %d; want %d, %d", c.day, year, offset, e, c.year, c.offset)
		}
	}
}

func TestP84AllDays(t *testing.T) {
	day := api.MinDay
	for year := 1; year <= 9999; year++ {
		for behind := dayOf(t, date(year, 12, 31)) + 1; day < behind; day++ {
			y, offset, e := Find(day)
			if y != year || offset != day-easters()[year] || e != api.OK {
				t.Fatalf("Find(%d) = %d, %d, %d; want %d, %d", day, y, offset, e, year, day-easters()[year])
			}
			if n, e := Moveable(y, offset); n != day || e != api.OK {
				t.Fatalf("Moveable(%d, %d) = %d, %d; want %d", y, offset, n, e, day)
			}
		}
	}
	if day != api.MaxDay {
		t.Errorf("the last day is %d", day-1)
	}
}

func TestP84Errors(t *testing.T) {
	for _, day := range []int{math.MinInt, math.MinInt + 1, -1 << 32, api.MinTime, api.MinDay - 400, api.MinDay - 2, api.MinDay - 1, api.MaxDay, api.MaxDay + 1, api.MaxDay + 400, api.MaxTime, 1 << 32, math.MaxInt - 1, math.MaxInt} {
		if year, offset, e := Find(day); year != 0 || offset != 0 || e != api.ErrRange {
			t.Errorf("Find(%d) = %d, %d, %d", day, year, offset, e)
		}
	}
}

func TestP85Examples(t *testing.T) {
	for _, c := range []struct {
		offset, month, date, from, to int
		want                          []int
	}{
		{0, 4, 25, 1583, 2100, []int{1666, 1734, 1886, 1943, 2038}}, {0, 4, 25, 1886, 2038, []int{1886, 1943, 2038}}, {0, 4, 25, 1887, 2037, []int{1943}}, {0, 3, 22, 1583, 2285, []int{1598, 1693, 1761, 1818, 2285}}, {0, 3, 31, 2024, 2024, []int{2024}}, {0, 3, 30, 2024, 2024, nil},
		{0, 3, 21, 1, 9999, nil}, {0, 4, 26, 1, 9999, nil}, {0, 3, 31, 2025, 2024, nil}, {0, 3, 31, 2024, 2023, nil}, {0, 4, 5, 2030, 2020, nil},
		{39, 5, 1, 1900, 2100, []int{1913, 2008}}, {-2, 4, 1, 1980, 2000, []int{1983, 1988, 1994}},
		// Shrove Tuesday on a leap day
		{-47, 2, 29, 1583, 2100, []int{1656, 1724, 1876, 2028}},
		// in the years after, and before
		{300, 1, 25, 2020, 2030, []int{2024}}, {276, 1, 1, 2020, 2030, []int{2024}}, {-91, 12, 31, 2020, 2030, []int{2024, 2029}}, {-400, 2, 25, 2020, 2030, []int{2024}}, {400, 5, 5, 2020, 2030, []int{2024}},
		// around both ends of the line
		{-90, 1, 1, 1, 1, []int{1}}, {-91, 12, 31, 1, 1, nil}, {278, 12, 31, 9999, 9999, []int{9999}}, {279, 1, 1, 9999, 9999, nil},
	} {
		if l := Years(c.offset, c.month, c.date, c.from, c.to); !slices.Equal(l, c.want) {
			t.Errorf("Years(%d, %d, %d, %d, %d) = %v; want %v", c.offset, c.month, c.date, c.from, c.to, l, c.want)
		}
	}
}

// yearsOf has the years of each month and day with an offset, in ascending order.
func yearsOf(offset int) map[api.Date][]int {
	m := map[api.Date][]int{}
	for year := 1; year <= 9999; year++ {
		if d, e := civil.Date(easters()[year] + offset); e == api.OK {
			d.Year = 0
			m[d] = append(m[d], year)
		}
	}
	return m
}

// TestP85AllDates has all pairs of a month and a day, those that do not exist too.
func TestP85AllDates(t *testing.T) {
	for _, offset := range []int{-400, -107, -81, -47, -46, -22, 0, 39, 250, 281, 400} {
		t.Run(strconv.Itoa(offset), func(t *testing.T) {
			t.Parallel()
			want := yearsOf(offset)
			for month := 0; month <= 13; month++ {
				for i := 0; i <= 32; i++ {
					if l := Years(offset, month, i, 1, 9999); !slices.Equal(l, want[date(0, month, i)]) {
						t.Errorf("Years(%d, %d, %d, 1, 9999) = %v; want %v", offset, month, i, l, want[date(0, month, i)])
					}
				}
			}
		})
	}
}

func TestP85AllOffsets(t *testing.T) {
	for offset := -400; offset <= 400; offset++ {
		for d, want := range yearsOf(offset) {
			from := want[0]
			to := want[min(len(want)-1, 2)]
			if l := Years(offset, d.Month, d.Day, from, to); !slices.Equal(l, want[:min(len(want), 3)]) {
				t.Fatalf("Years(%d, %d, %d, %d, %d) = %v; want %v", offset, d.Month, d.Day, from, to, l, want)
			}
		}
	}
}

// TestP85Bounds has years at both bounds, and bounds outside of the years.
func TestP85Bounds(t *testing.T) {
	for _, c := range []struct{ offset, month, date int }{{0, 4, 8}, {0, 3, 28}, {0, 4, 19}, {-47, 2, 29}, {300, 1, 25}, {-400, 3, 10}} {
		all := yearsOf(c.offset)[date(0, c.month, c.date)]
		bounds := []int{math.MinInt, math.MinInt + 1, -1 << 32, -1, 0, 1, 2, 1582, 1583, 2024, 5000, 9998, 9999, 10000, 10001, 1 << 32, math.MaxInt - 1, math.MaxInt}
		for _, i := range []int{0, 1, len(all) / 2, len(all) - 1} {
			bounds = append(bounds, all[i]-1, all[i], all[i]+1)
		}
		for _, from := range bounds {
			for _, to := range bounds {
				var want []int
				for _, year := range all {
					if from <= year && year <= to {
						want = append(want, year)
					}
				}
				if l := Years(c.offset, c.month, c.date, from, to); !slices.Equal(l, want) {
					t.Errorf("Years(%d, %d, %d, %d, %d) = %v; want %v", c.offset, c.month, c.date, from, to, l, want)
				}
			}
		}
	}
}

// TestP85Invalid has arguments for which there is no movable day with the month and the day of the month.
func TestP85Invalid(t *testing.T) {
	for _, offset := range []int{math.MinInt, -1 << 32, -500, -401, 401, 500, 1 << 32, math.MaxInt - 19813, math.MaxInt} {
		for month := 1; month <= 12; month++ {
			for i := 1; i <= 31; i++ {
				if l := Years(offset, month, i, 1990, 2030); len(l) != 0 {
					t.Errorf("Years(%d, %d, %d) = %v", offset, month, i, l)
				}
			}
		}
	}
	for _, d := range []api.Date{date(0, 4, 31), date(0, 4, 0), date(0, 4, -1), date(0, 4, math.MinInt), date(0, 4, math.MaxInt), date(0, 4, 1<<32+20), date(0, 0, 20), date(0, -4, 20), date(0, 13, 20), date(0, 16, 20), date(0, math.MinInt, 20), date(0, math.MaxInt, 20), date(0, 1<<32+4, 20), {}} {
		for _, offset := range []int{-400, -47, 0, 39, 400} {
			if l := Years(offset, d.Month, d.Day, 1, 9999); len(l) != 0 {
				t.Errorf("Years(%d, %d, %d) = %v", offset, d.Month, d.Day, l)
			}
		}
	}
}

// TestP85MaxList tests the bound of a list by the filter alone, since no date has more than 1000 years.
func TestP85MaxList(t *testing.T) {
	for _, c := range []struct{ from, to, first, last, n int }{
		{1, 9999, 1, 1000, 1000}, {math.MinInt, math.MaxInt, 1, 1000, 1000}, {1001, 2000, 1001, 2000, 1000}, {1001, 2001, 1001, 2000, 1000}, {1001, 1999, 1001, 1999, 999}, {9001, math.MaxInt, 9001, 9999, 999},
	} {
		l := filter(c.from, c.to, func(int) bool { return true })
		if len(l) != c.n || l[0] != c.first || l[len(l)-1] != c.last || !slices.IsSorted(l) {
			t.Errorf("filter(%d, %d): %v", c.from, c.to, l)
		}
	}
	even := filter(1, 9999, func(year int) bool { return year%2 == 0 })
	if len(even) != 1000 || even[0] != 2 || even[999] != 2000 {
		t.Errorf("even years: %v", even)
	}
}
