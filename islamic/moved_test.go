package islamic

import (
	"math"
	"slices"
	"testing"

	"civiltime/api"
	"civiltime/civil"
)

func TestP65Examples(t *testing.T) {
	day := func(year, month, i int) int {
		n, e := civil.Day(date(year, month, i))
		if e != api.OK {
			t.Fatalf("civil.Day(%d, %d, %d): %d", year, month, i, e)
		}
		return n
	}
	for _, c := range []struct {
		kind int
		d    api.Date
		year int
		l    []int
	}{
		{1, date(0, 1, 1), 2008, []int{13888, 14242}}, {1, date(0, 1, 1), 2023, []int{19557}}, {1, date(0, 9, 1), 2024, []int{19793}},
		// 1445 is a leap year of the first kind, and neither 1444 nor 1446 is one.
		{1, date(0, 12, 30), 2024, []int{19911}}, {1, date(0, 12, 30), 2023, nil}, {1, date(0, 12, 30), 2025, nil},
		{1, date(0, 1, 1), 1, nil}, {1, date(0, 1, 1), 600, nil}, {1, date(0, 1, 1), 621, nil}, {1, date(0, 1, 1), 622, []int{-492148}}, {1, date(0, 12, 29), 622, nil}, {1, date(0, 1, 1), 623, []int{-491794}},
		{1, date(0, 12, 29), 623, []int{-491795}}, {1, date(0, 6, 1), 622, []int{day(622, 12, 14)}},
		{4, date(0, 12, 30), 9936, []int{behindDay - 1}}, {1, date(0, 12, 29), 9936, []int{behindDay - 1}}, {1, date(0, 1, 1), 9936, nil}, {1, date(0, 1, 1), 9937, nil}, {1, date(0, 1, 1), 9999, nil}, {1, date(0, 12, 29), 9999, nil},
	} {
		for _, year := range []int{0, 1, 1445, -1, 9600, math.MinInt, math.MaxInt} {
			d := date(year, c.d.Month, c.d.Day)
			if l, e := Moved(c.kind, d, c.year); !slices.Equal(l, c.l) || e != api.OK {
				t.Errorf("Moved(%d, %v, %d) = %v, %d; want %v", c.kind, d, c.year, l, e, c.l)
			}
		}
	}
}

// yearly has the days of each month and day that lie in one Gregorian year.
type yearly [13][31][]int

// TestP65AllDays compares all months and days in all Gregorian years with dates that are counted one by one.
func TestP65AllDays(t *testing.T) {
	for kind := 1; kind <= 4; kind++ {
		t.Run("", func(t *testing.T) {
			t.Parallel()
			for year, days := range gregorianYears(kind) {
				for month := 1; month <= 12; month++ {
					for i := 1; i <= 29+month%2+month/12; i++ {
						if l, e := Moved(kind, date(0, month, i), year); !slices.Equal(l, days[month][i]) || e != api.OK {
							t.Fatalf("Moved(%d, %d-%d, %d) = %v, %d; want %v", kind, month, i, year, l, e, days[month][i])
						}
					}
				}
			}
		})
	}
}

// gregorianYears goes through the years from 1 to 9999 with the days of the calendar in them.
func gregorianYears(kind int) func(yield func(int, *yearly) bool) {
	return func(yield func(int, *yearly) bool) {
		year, days := 1, new(yearly)
		for day, d := range all(kind) {
			for day >= newYear(year+1) {
				if !yield(year, days) {
					return
				}
				year, days = year+1, new(yearly)
			}
			days[d.Month][d.Day] = append(days[d.Month][d.Day], day)
		}
		for ; year <= 9999; year++ {
			if !yield(year, days) {
				return
			}
			days = new(yearly)
		}
	}
}

// newYear returns the first day of a Gregorian year.
func newYear(year int) int {
	y := year - 1
	return -719162 + 365*y + y/4 - y/100 + y/400
}

func TestP65Errors(t *testing.T) {
	refused := func(kind int, d api.Date, year int, want api.Errno) {
		t.Helper()
		if l, e := Moved(kind, d, year); len(l) != 0 || e != want {
			t.Errorf("Moved(%d, %v, %d) = %v, %d", kind, d, year, l, e)
		}
	}
	badYears := []int{math.MinInt, math.MinInt + 1, -2008, -1, 0, 10000, 10001, 1 << 32, math.MaxInt}
	for kind := 1; kind <= 4; kind++ {
		for _, year := range append(badYears, 1, 622, 2008, 9936, 9999) {
			for month := 2; month <= 10; month += 2 {
				refused(kind, date(1445, month, 30), year, api.ErrArg)
			}
			for month := 1; month <= 12; month++ {
				for _, day := range []int{math.MinInt, -1, 0, 31, 32, math.MaxInt} {
					refused(kind, date(1445, month, day), year, api.ErrArg)
				}
			}
			for _, month := range []int{math.MinInt, -12, -1, 0, 13, 14, 24, math.MaxInt} {
				for _, day := range []int{1, 29, 30, 31} {
					refused(kind, date(1445, month, day), year, api.ErrArg)
				}
			}
		}
		for _, year := range badYears {
			for _, d := range []api.Date{date(1445, 1, 1), date(0, 12, 30), date(0, 2, 29), date(0, 11, 30)} {
				refused(kind, d, year, api.ErrRange)
			}
		}
	}
	for _, kind := range badKinds {
		for _, year := range append(badYears, 1, 2008, 9999) {
			refused(kind, date(1445, 1, 1), year, api.ErrArg)
			refused(kind, date(1445, 2, 30), year, api.ErrArg)
		}
	}
}

// TestP66Moves compares each date with the one a year before, in the Gregorian calendar.
func TestP66Moves(t *testing.T) {
	for kind := 1; kind <= 4; kind++ {
		for day, d := range all(kind) {
			later, e := Day(kind, date(d.Year+1, d.Month, d.Day))
			if e != api.OK {
				continue
			}
			g, _ := civil.Date(day)
			g, _ = civil.AddMonths(g, 12)
			year, _ := civil.Day(g)
			if n := year - later; n < 10 || n > 12 {
				t.Fatalf("kind %d: %v moves by %d days", kind, d, n)
			}
		}
	}
}
