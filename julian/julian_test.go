package julian

import (
	"iter"
	"math"
	"testing"

	"civiltime/api"
)

func date(year, month, day int) api.Date { return api.Date{Year: year, Month: month, Day: day} }

// strange are integers at and beyond the bounds of years, months, days, and int.
var strange = []int{
	math.MinInt, math.MinInt + 1, -1 << 62, api.MinTime, api.MinDay - 309, api.MinDay - 308, api.MinDay - 3, api.MinDay - 2, api.MinDay - 1, api.MinDay, api.MinDay + 1, -9999, -400, -4, -1,
	0, 1, 2, 3, 4, 12, 13, 28, 29, 30, 31, 32, 100, 1900, 2000, 2024, 9998, 9999, 10000,
	api.MaxDay - 2, api.MaxDay - 1, api.MaxDay, api.MaxDay + 1, api.MaxTime, 1 << 32, 1 << 62, math.MaxInt - dayZero, math.MaxInt - 1, math.MaxInt,
}

// invalid are dates that are valid neither in the Julian calendar nor in the Gregorian one.
var invalid = []api.Date{
	{}, date(0, 12, 31), date(0, 1, 1), date(0, 2, 29), date(-1, 1, 1), date(-4, 2, 29), date(10000, 1, 1), date(math.MinInt, 1, 1), date(math.MaxInt, 12, 31),
	date(2024, 0, 1), date(2024, -1, 1), date(2024, 13, 1), date(2024, math.MinInt, 1), date(2024, math.MaxInt, 1),
	date(2024, 1, 0), date(2024, 1, -1), date(2024, 1, 32), date(2024, 4, 31), date(2024, 2, 30), date(1900, 2, 30), date(2023, 2, 29), date(1901, 2, 29), date(9999, 2, 29),
	date(2024, 12, 32), date(2024, 1, math.MinInt), date(2024, 1, math.MaxInt), date(1, 1, 0), date(10000, 2, 29),
}

// aCalendar is a calendar by its first date and its leap years, for which it counts its days one by one.
type aCalendar struct {
	first int // the day of 1-1-1
	leap  func(year int) bool
}

var (
	julianOnes = aCalendar{-719164, func(year int) bool { return year%4 == 0 }}
	gregorian  = aCalendar{-719162, func(year int) bool { return year%400 == 0 || year%4 == 0 && year%100 != 0 }}
)

func (c aCalendar) length(year, month int) int {
	if year < 1 || year > 9999 {
		return 0
	}
	switch month {
	case 1, 3, 5, 7, 8, 10, 12:
		return 31
	case 4, 6, 9, 11:
		return 30
	case 2:
		if c.leap(year) {
			return 29
		}
		return 28
	}
	return 0
}

// all goes through all valid dates with their days, also through those whose day is less than MinDay, or not less than MaxDay.
func (c aCalendar) all() iter.Seq2[int, api.Date] {
	return func(yield func(int, api.Date) bool) {
		day := c.first
		for year := 1; year <= 9999; year++ {
			for month := 1; month <= 12; month++ {
				for i := 1; i <= c.length(year, month); i++ {
					if !yield(day, date(year, month, i)) {
						return
					}
					day++
				}
			}
		}
	}
}

// within goes through those with days from MinDay to MaxDay - 1.
func (c aCalendar) within() iter.Seq2[int, api.Date] {
	return func(yield func(int, api.Date) bool) {
		for day, d := range c.all() {
			if day >= api.MinDay && day < api.MaxDay && !yield(day, d) {
				return
			}
		}
	}
}

// none stands in a table where there is no day.
const none = math.MinInt32

// tableOf has a place for each date, in the order of dates, with the number of a day.
func tableOf() []int {
	l := make([]int, 9999*12*31)
	for i := range l {
		l[i] = none
	}
	return l
}

func place(d api.Date) int { return ((d.Year-1)*12+d.Month-1)*31 + d.Day - 1 }

func TestP51Leap(t *testing.T) {
	for _, year := range []int{4, 8, 100, 1700, 1900, 2000, 2024, 2100, 9996} {
		if !Leap(year) {
			t.Errorf("not Leap(%d)", year)
		}
	}
	for _, year := range []int{1, 2, 3, 1901, 1902, 1903, 9999, 0, -1, -4, -400, 10000, 10004, math.MinInt, math.MaxInt - 3, math.MaxInt} {
		if Leap(year) {
			t.Errorf("Leap(%d)", year)
		}
	}
	for year := -1000; year <= 11000; year++ {
		if want := year >= 1 && year <= 9999 && year%4 == 0; Leap(year) != want {
			t.Errorf("Leap(%d) = %t", year, !want)
		}
	}
}

func TestP51Length(t *testing.T) {
	for _, c := range []struct{ year, month, length int }{
		{1901, 1, 31}, {1901, 2, 28}, {1901, 3, 31}, {1901, 4, 30}, {1901, 5, 31}, {1901, 6, 30}, {1901, 7, 31}, {1901, 8, 31}, {1901, 9, 30}, {1901, 10, 31}, {1901, 11, 30}, {1901, 12, 31},
		{1900, 2, 29}, {2000, 2, 29}, {100, 2, 29}, {4, 2, 29}, {1, 2, 28}, {9996, 2, 29}, {9999, 2, 28}, {9999, 12, 31},
		{0, 1, 0}, {0, 2, 0}, {-4, 2, 0}, {10000, 2, 0}, {10000, 1, 0}, {1900, 0, 0}, {1900, -1, 0}, {1900, 13, 0}, {1900, math.MaxInt, 0}, {1900, math.MinInt, 0}, {math.MinInt, 2, 0}, {math.MaxInt, 2, 0},
	} {
		if n := Length(c.year, c.month); n != c.length {
			t.Errorf("Length(%d, %d) = %d", c.year, c.month, n)
		}
	}
	for year := -5; year <= 10005; year++ {
		for month := -2; month <= 15; month++ {
			if n := Length(year, month); n != julianOnes.length(year, month) {
				t.Errorf("Length(%d, %d) = %d", year, month, n)
			}
		}
	}
}

// TestP1 calls every function with all numbers that may be dangerous: none of them panics, and with an error the other result is zero.
func TestP1(t *testing.T) {
	check := func(e api.Errno, zero bool) {
		t.Helper()
		if e != api.OK && !zero {
			t.Errorf("a result beside the error %d", e)
		}
	}
	for _, a := range strange {
		d, e := Date(a)
		check(e, d == api.Date{})
		n, e := Number(a)
		check(e, n == 0)
		n, e = Offset(a)
		check(e, n == 0)
		for _, b := range strange {
			_, _ = Leap(a), Length(a, b)
			d, e = Mixed(Switch(a), b)
			check(e, d == api.Date{})
			for _, c := range strange {
				n, e = Day(date(a, b, c))
				check(e, n == 0)
				for _, first := range []int{math.MinInt, api.MinDay, 0, api.MaxDay, math.MaxInt} {
					n, e = MixedDay(Switch(first), date(a, b, c))
					check(e, n == 0)
				}
			}
		}
	}
}
