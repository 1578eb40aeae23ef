package civil

import (
	"math"
	"testing"

	"civiltime/api"
)

func TestP22Examples(t *testing.T) {
	for _, c := range []struct {
		d   api.Date
		day int
	}{
		{date(1970, 1, 1), 0}, {date(1969, 12, 31), -1}, {date(1970, 2, 1), 31}, {date(2024, 2, 29), 19782}, {date(2024, 3, 1), 19783}, {date(2026, 2, 28), 20512},
		{date(2000, 2, 29), 11016}, {date(2000, 3, 1), 11017}, {date(1900, 2, 28), -25509}, {date(1900, 3, 1), -25508}, {date(2024, 2, 23), 19776},
		{date(1, 1, 1), api.MinDay}, {date(9999, 12, 31), api.MaxDay - 1},
	} {
		if day, e := Day(c.d); day != c.day || e != api.OK {
			t.Errorf("Day(%v) = %d, %d", c.d, day, e)
		}
		if d, e := Date(c.day); d != c.d || e != api.OK {
			t.Errorf("Date(%d) = %v, %d", c.day, d, e)
		}
	}
}

func TestP22Errors(t *testing.T) {
	for _, d := range invalid {
		if day, e := Day(d); day != 0 || e != api.ErrArg {
			t.Errorf("Day(%v) = %d, %d", d, day, e)
		}
	}
	for _, day := range []int{api.MinDay - 1, api.MaxDay, api.MaxDay + 1, api.MinTime, api.MaxTime, math.MinInt, math.MaxInt} {
		if d, e := Date(day); d != (api.Date{}) || e != api.ErrRange {
			t.Errorf("Date(%d) = %v, %d", day, d, e)
		}
	}
}

func TestP22AllDays(t *testing.T) {
	count := 0
	for day, d := range days() {
		if x, e := Day(d); x != day || e != api.OK {
			t.Fatalf("Day(%v) = %d, %d; want %d", d, x, e, day)
		}
		if x, e := Date(day); x != d || e != api.OK {
			t.Fatalf("Date(%d) = %v, %d; want %v", day, x, e, d)
		}
		count++
	}
	if count != api.MaxDay-api.MinDay {
		t.Errorf("%d days", count)
	}
}

func TestP23Weekday(t *testing.T) {
	for _, c := range []struct{ day, weekday int }{
		{0, api.Thursday}, {1, api.Friday}, {2, api.Saturday}, {3, api.Sunday}, {4, api.Monday}, {5, api.Tuesday}, {6, api.Wednesday}, {7, api.Thursday},
		{-1, api.Wednesday}, {-3, api.Monday}, {-4, api.Sunday}, {19782, api.Thursday}, {20512, api.Saturday}, {api.MinDay, api.Monday}, {api.MaxDay - 1, api.Friday},
		{api.MinDay - 1, 0}, {api.MaxDay, 0}, {math.MinInt, 0}, {math.MaxInt, 0},
	} {
		if w := Weekday(c.day); w != c.weekday {
			t.Errorf("Weekday(%d) = %d", c.day, w)
		}
	}
	for day := api.MinDay; day < api.MaxDay-1; day++ {
		if w, next := Weekday(day), Weekday(day+1); w < 1 || w > 7 || next != w%7+1 {
			t.Fatalf("Weekday(%d) = %d, and %d on the next day", day, w, next)
		}
	}
}

func TestP23YearDay(t *testing.T) {
	for _, c := range []struct {
		d api.Date
		n int
	}{
		{date(2024, 1, 1), 1}, {date(2024, 2, 29), 60}, {date(2024, 3, 1), 61}, {date(2023, 3, 1), 60}, {date(2024, 12, 31), 366}, {date(2023, 12, 31), 365},
		{date(1900, 12, 31), 365}, {date(2000, 12, 31), 366}, {date(2026, 2, 28), 59}, {date(1, 1, 1), 1}, {date(9999, 12, 31), 365},
	} {
		if n := YearDay(c.d); n != c.n {
			t.Errorf("YearDay(%v) = %d", c.d, n)
		}
	}
	for _, d := range invalid {
		if n := YearDay(d); n != 0 {
			t.Errorf("YearDay(%v) = %d", d, n)
		}
	}
	n := 0
	for _, d := range days() {
		n++
		if d.Month == 1 && d.Day == 1 {
			n = 1
		}
		if got := YearDay(d); got != n {
			t.Fatalf("YearDay(%v) = %d; want %d", d, got, n)
		}
	}
}

func TestP27Inverse(t *testing.T) {
	for day := api.MinDay; day < api.MaxDay; day += 11 {
		d, e := Date(day)
		if e != api.OK || !Valid(d) {
			t.Fatalf("Date(%d) = %v, %d", day, d, e)
		}
		if x, e := Day(d); x != day || e != api.OK {
			t.Fatalf("Day(Date(%d)) = %d, %d", day, x, e)
		}
	}
}

func TestP27Repeats(t *testing.T) {
	const cycle = 146097
	for day := api.MinDay; day < api.MaxDay-cycle; day += 13 {
		d, _ := Date(day)
		later, e := Date(day + cycle)
		if e != api.OK || later != date(d.Year+400, d.Month, d.Day) {
			t.Fatalf("Date(%d) = %v; 400 years after %v", day+cycle, later, d)
		}
		if Weekday(day) != Weekday(day+cycle) || YearDay(d) != YearDay(later) {
			t.Fatalf("%v and %v have other weekdays, or numbers", d, later)
		}
	}
}
