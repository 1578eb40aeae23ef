package civil

import (
	"iter"
	"math"
	"testing"

	"civiltime/api"
)

func date(year, month, day int) api.Date { return api.Date{Year: year, Month: month, Day: day} }

// strange are integers at and beyond the bounds of years, months, days, and int.
var strange = []int{
	math.MinInt, math.MinInt + 1, -1 << 62, api.MinDay - 1, api.MinDay, -10000, -9999, -400, -13, -12, -8, -7, -6, -5, -4, -1,
	0, 1, 2, 4, 5, 6, 7, 8, 11, 12, 13, 28, 29, 30, 31, 32, 33, 365, 400, 1900, 2000, 2023, 2024, 9998, 9999, 10000,
	api.MaxDay - 1, api.MaxDay, 1 << 32, 1 << 62, math.MaxInt - 12, math.MaxInt - 1, math.MaxInt,
}

// invalid are dates that are not valid, each by one number at least.
var invalid = []api.Date{
	{}, date(0, 12, 31), date(0, 1, 1), date(-1, 1, 1), date(-400, 3, 1), date(10000, 1, 1), date(math.MinInt, 1, 1), date(math.MaxInt, 12, 31),
	date(2024, 0, 1), date(2024, -1, 1), date(2024, 13, 1), date(2024, math.MinInt, 1), date(2024, math.MaxInt, 1),
	date(2024, 1, 0), date(2024, 1, -1), date(2024, 1, 32), date(2024, 4, 31), date(2024, 2, 30), date(2023, 2, 29), date(1900, 2, 29), date(9999, 2, 29),
	date(2024, 12, 32), date(2024, 1, math.MinInt), date(2024, 1, math.MaxInt),
}

// lengthOf is the length of a month by the definition of the chapter.
func lengthOf(year, month int) int {
	if year < 1 || year > 9999 {
		return 0
	}
	switch month {
	case 1, 3, 5, 7, 8, 10, 12:
		return 31
	case 4, 6, 9, 11:
		return 30
	case 2:
		if leapYear(year) {
			return 29
		}
		return 28
	}
	return 0
}

func leapYear(year int) bool {
	if year%400 == 0 {
		return true
	}
	return year%4 == 0 && year%100 != 0
}

// days goes through all days with their dates, from the first one on, one after the other.
func days() iter.Seq2[int, api.Date] {
	return func(yield func(int, api.Date) bool) {
		day := -719162
		for year := 1; year <= 9999; year++ {
			for month := 1; month <= 12; month++ {
				for i := 1; i <= lengthOf(year, month); i++ {
					if !yield(day, date(year, month, i)) {
						return
					}
					day++
				}
			}
		}
	}
}

func TestP21Valid(t *testing.T) {
	for _, d := range invalid {
		if Valid(d) {
			t.Errorf("Valid(%v)", d)
		}
	}
	for _, d := range []api.Date{date(1, 1, 1), date(9999, 12, 31), date(2024, 2, 29), date(2000, 2, 29), date(2023, 2, 28), date(1970, 1, 1), date(2026, 4, 30)} {
		if !Valid(d) {
			t.Errorf("not Valid(%v)", d)
		}
	}
	for _, year := range strange {
		for month := -2; month <= 15; month++ {
			for day := -2; day <= 34; day++ {
				d := date(year, month, day)
				if want := day >= 1 && day <= lengthOf(year, month); Valid(d) != want {
					t.Errorf("Valid(%v) = %t", d, !want)
				}
			}
		}
	}
}

func TestP21Leap(t *testing.T) {
	for _, year := range []int{4, 400, 1600, 1996, 2000, 2024, 2400, 9996} {
		if !Leap(year) {
			t.Errorf("not Leap(%d)", year)
		}
	}
	for _, year := range []int{1, 100, 1700, 1800, 1900, 2001, 2023, 2100, 9900, 9999, 0, -4, -400, 10000, 10400, math.MinInt, math.MaxInt - 3} {
		if Leap(year) {
			t.Errorf("Leap(%d)", year)
		}
	}
	for year := -1000; year <= 11000; year++ {
		if want := year >= 1 && year <= 9999 && leapYear(year); Leap(year) != want {
			t.Errorf("Leap(%d) = %t", year, !want)
		}
	}
}

func TestP21Length(t *testing.T) {
	for _, c := range []struct{ year, month, length int }{
		{2023, 1, 31}, {2023, 2, 28}, {2023, 3, 31}, {2023, 4, 30}, {2023, 5, 31}, {2023, 6, 30}, {2023, 7, 31}, {2023, 8, 31}, {2023, 9, 30}, {2023, 10, 31}, {2023, 11, 30}, {2023, 12, 31},
		{2024, 2, 29}, {2000, 2, 29}, {1900, 2, 28}, {4, 2, 29}, {1, 1, 31}, {9999, 12, 31},
		{0, 1, 0}, {-4, 2, 0}, {10000, 2, 0}, {2024, 0, 0}, {2024, -1, 0}, {2024, 13, 0}, {2024, math.MaxInt, 0}, {2024, math.MinInt, 0}, {math.MinInt, 2, 0}, {math.MaxInt, 2, 0},
	} {
		if n := Length(c.year, c.month); n != c.length {
			t.Errorf("Length(%d, %d) = %d", c.year, c.month, n)
		}
	}
	for year := -5; year <= 10005; year++ {
		for month := -2; month <= 15; month++ {
			if n := Length(year, month); n != lengthOf(year, month) {
				t.Errorf("Length(%d, %d) = %d", year, month, n)
			}
		}
	}
}

// TestP1 calls every function with all numbers that may be dangerous: none of them panics, and with an error the other result is zero.
func TestP1(t *testing.T) {
	check := func(e api.Errno, zero bool) {
		t.Helper()
		if e != api.OK && !zero {
			t.Errorf("a result beside the error %d", e)
		}
	}
	for _, a := range strange {
		for _, b := range strange {
			for _, c := range strange {
				d := date(a, b, c)
				day, e := Day(d)
				check(e, day == 0)
				_, _, _ = YearDay(d), Weekday(a), Text(d)
				for _, n := range strange {
					sum, e := AddMonths(d, n)
					check(e, sum == api.Date{})
				}
				for n := -6; n <= 6; n++ {
					day, e := Nth(a, b, c, n)
					check(e, day == 0)
				}
			}
		}
		x, e := Date(a)
		check(e, x == api.Date{})
	}
}
