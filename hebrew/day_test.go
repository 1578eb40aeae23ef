package hebrew

import (
	"math"
	"testing"

	"civiltime/api"
	"civiltime/civil"
)

// examples are dates with the Gregorian dates of their days.
var examples = []struct{ hebrew, gregorian api.Date }{
	{date(5786, 7, 1), date(2025, 9, 23)}, {date(5786, 9, 25), date(2025, 12, 15)}, {date(5786, 1, 15), date(2026, 4, 2)}, {date(5786, 6, 29), date(2026, 9, 11)}, {date(5784, 13, 14), date(2024, 3, 24)}, {date(5784, 12, 30), date(2024, 3, 10)}, {date(5784, 13, 1), date(2024, 3, 11)}, {date(5784, 1, 1), date(2024, 4, 9)},
	{date(5708, 2, 5), date(1948, 5, 14)}, {date(3831, 7, 3), date(70, 9, 24)}, {date(3896, 7, 9), date(135, 10, 2)}, {date(4230, 10, 18), date(470, 1, 8)}, {date(4336, 3, 4), date(576, 5, 20)}, {date(4455, 8, 13), date(694, 11, 10)}, {date(4773, 2, 6), date(1013, 4, 25)}, {date(5000, 13, 8), date(1240, 3, 10)},
	{date(5252, 1, 3), date(1492, 4, 9)}, {date(5440, 4, 3), date(1680, 6, 30)}, {date(5663, 1, 22), date(1903, 4, 19)}, {date(5704, 7, 8), date(1943, 10, 7)}, {date(5752, 13, 12), date(1992, 3, 17)}, {date(5756, 12, 5), date(1996, 2, 25)}, {date(5799, 8, 12), date(2038, 11, 10)}, {date(5854, 5, 5), date(2094, 7, 18)},
}

func TestP73Examples(t *testing.T) {
	for _, c := range examples {
		want, _ := civil.Day(c.gregorian)
		if day, e := Day(c.hebrew); day != want || e != api.OK {
			t.Errorf("Day(%v) = %d, %d; want %d", c.hebrew, day, e, want)
		}
		if d, e := Date(want); d != c.hebrew || e != api.OK {
			t.Errorf("Date(%d) = %v, %d; want %v", want, d, e, c.hebrew)
		}
	}
	if day, e := Day(date(5786, 1, 15)); day != 20545 || e != api.OK {
		t.Errorf("Day(5786-1-15) = %d, %d", day, e)
	}
}

// TestP73AllDates goes through all dates, counted one by one, also those whose days are out of range.
func TestP73AllDates(t *testing.T) {
	count := 0
	for day, want := range all() {
		n, e := Day(want)
		d, f := Date(day)
		if inDays(day) {
			count++
			if n != day || e != api.OK || d != want || f != api.OK {
				t.Fatalf("Day(%v) = %d, %d; Date(%d) = %v, %d", want, n, e, day, d, f)
			}
		} else if n != 0 || e != api.ErrRange || d != (api.Date{}) || f != api.ErrRange {
			t.Fatalf("Day(%v) = %d, %d; Date(%d) = %v, %d", want, n, e, day, d, f)
		}
	}
	if count != api.MaxDay-api.MinDay {
		t.Errorf("%d days", count)
	}
}

// TestP73InvalidDates has the days before and behind each month, and months before and behind each year.
func TestP73InvalidDates(t *testing.T) {
	refused := func(d api.Date) {
		t.Helper()
		if day, e := Day(d); day != 0 || e != api.ErrRange {
			t.Fatalf("Day(%v) = %d, %d", d, day, e)
		}
	}
	for year := 1; year <= 20000; year++ {
		for _, month := range monthsOf(year) {
			refused(date(year, month, 0))
			refused(date(year, month, length(year, month)+1))
		}
		refused(date(year, 0, 1))
		refused(date(year, len(monthsOf(year))+1, 1))
	}
	for _, d := range badDates {
		refused(d)
	}
	for _, year := range badYears {
		for month := 0; month <= 14; month++ {
			refused(date(year, month, 1))
		}
	}
}

func TestP73Bounds(t *testing.T) {
	for _, c := range []struct {
		day  int
		want api.Date
	}{{api.MinDay, date(3761, 10, 18)}, {api.MaxDay - 1, date(13760, 8, 28)}} {
		d, e := Date(c.day)
		if d != c.want || e != api.OK {
			t.Errorf("Date(%d) = %v, %d", c.day, d, e)
		}
		if day, e := Day(d); day != c.day || e != api.OK {
			t.Errorf("Day(%v) = %d, %d", d, day, e)
		}
	}
	for _, d := range []api.Date{date(3761, 10, 17), date(13760, 8, 29), date(1, 7, 1), date(20000, 6, 29)} {
		if length(d.Year, d.Month) < d.Day {
			t.Errorf("%v is not valid", d)
		}
		if day, e := Day(d); day != 0 || e != api.ErrRange {
			t.Errorf("Day(%v) = %d, %d", d, day, e)
		}
	}
	for _, day := range []int{api.MinDay - 1, api.MinDay - 2, api.MinDay - 385, -2092591, -2092590, api.MaxDay, api.MaxDay + 1, 5212258, api.MinTime, api.MaxTime, -1 << 62, 1 << 62, math.MinInt, math.MinInt + 1, math.MaxInt - 1, math.MaxInt} {
		if d, e := Date(day); d != (api.Date{}) || e != api.ErrRange {
			t.Errorf("Date(%d) = %v, %d", day, d, e)
		}
	}
}

func TestP76OneToOne(t *testing.T) {
	for day := api.MinDay; day < api.MaxDay; day++ {
		d, e := Date(day)
		if e != api.OK {
			t.Fatalf("Date(%d): %d", day, e)
		}
		if n, e := Day(d); n != day || e != api.OK {
			t.Fatalf("Day(%v) = %d, %d; want %d", d, n, e, day)
		}
	}
}
