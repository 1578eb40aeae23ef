package hebrew

import (
	"iter"
	"math"
	"slices"
	"sync"
	"testing"

	"civiltime/api"
)

func date(year, month, day int) api.Date { return api.Date{Year: year, Month: month, Day: day} }

// strange are integers at and beyond the bounds of years, months, days, and int.
var strange = []int{
	math.MinInt, math.MinInt + 1, -1 << 62, -1 << 32, api.MinTime, -2092591, -2092590, -2092589, api.MinDay - 1, api.MinDay, -20000, -354, -19, -2, -1,
	0, 1, 2, 3, 6, 7, 8, 9, 11, 12, 13, 14, 19, 28, 29, 30, 31, 59, 60, 354, 385, 3760, 3761, 3762, 5784, 5786, 13759, 13760, 13761, 19981, 19999, 20000, 20001, 20002, 20003,
	api.MaxDay - 1, api.MaxDay, 5212258, api.MaxTime, 1 << 32, 1 << 62, math.MaxInt - 1, math.MaxInt,
}

// badYears are no years.
var badYears = []int{math.MinInt, math.MinInt + 1, -1<<32 + 5786, -20000, -19, -16, -2, -1, 0, 20001, 20002, 20003, 20004, 20019, 1<<32 + 5786, 1 << 62, math.MaxInt - 1, math.MaxInt}

// badDates are not valid.
var badDates = []api.Date{
	{}, date(0, 7, 1), date(0, 1, 1), date(-1, 7, 1), date(-5786, 7, 1), date(20001, 7, 1), date(20001, 1, 1), date(20002, 7, 1), date(math.MinInt, 7, 1), date(math.MaxInt, 7, 1), date(1<<32+5786, 7, 1),
	date(5786, 0, 1), date(5786, -1, 1), date(5786, 13, 1), date(5786, 14, 1), date(5784, 14, 1), date(5784, 0, 1), date(5786, math.MinInt, 1), date(5786, math.MaxInt, 1), date(5786, 1<<32+7, 1),
	date(5786, 7, 0), date(5786, 7, -1), date(5786, 7, 31), date(5786, 8, 30), date(5786, 12, 30), date(5784, 9, 30), date(5784, 13, 30), date(5784, 12, 31), date(5786, 6, 30), date(5786, 7, math.MinInt), date(5786, 7, math.MaxInt), date(5786, 7, 1<<32+1),
	date(1, 7, 0), date(1, 6, 30), date(20000, 6, 30), date(20000, 6, 31), date(20000, 7, 31),
}

// leap goes by the list of the leap years of a cycle; there is no such year for other numbers.
func leap(year int) bool {
	return year >= 1 && year <= 20000 && slices.Contains([]int{3, 6, 8, 11, 14, 17, 19}, (year-1)%19+1)
}

// monthsOf are the months of a year in their order.
func monthsOf(year int) []int {
	switch {
	case year < 1 || year > 20000:
		return nil
	case leap(year):
		return []int{7, 8, 9, 10, 11, 12, 13, 1, 2, 3, 4, 5, 6}
	}
	return []int{7, 8, 9, 10, 11, 12, 1, 2, 3, 4, 5, 6}
}

// lengthsOf are the lengths of the months in the order of a year, by its length.
var lengthsOf = map[int][]int{
	353: {30, 29, 29, 29, 30, 29, 30, 29, 30, 29, 30, 29},
	354: {30, 29, 30, 29, 30, 29, 30, 29, 30, 29, 30, 29},
	355: {30, 30, 30, 29, 30, 29, 30, 29, 30, 29, 30, 29},
	383: {30, 29, 29, 29, 30, 30, 29, 30, 29, 30, 29, 30, 29},
	384: {30, 29, 30, 29, 30, 30, 29, 30, 29, 30, 29, 30, 29},
	385: {30, 30, 30, 29, 30, 30, 29, 30, 29, 30, 29, 30, 29},
}

// weekday is that of civil, for all integers that are days of the calendar.
func weekday(day int) int { return (day+3+7*1000000)%7 + 1 }

// A tradition has the days on which the years from 1 to 20001 begin, as the four traditional postponements of a new year yield them, and the days that the first two of these yield.
type tradition struct{ years, elapsed []int }

var traditional = sync.OnceValue(func() tradition {
	const hour = 1080
	t := tradition{years: []int{0}, elapsed: []int{0}}
	// The first conjunction is 5 hours and 204 parts after the evening with which the Monday of the first new year begins.
	parts := 5*hour + 204
	for year := 1; year <= 20001; year++ {
		day, part := -2092590+parts/(24*hour), parts%(24*hour)
		late := part >= 18*hour // at noon, or behind it
		common, afterLeap := !leap(year), year == 1 || leap(year-1)
		tuesday := weekday(day) == api.Tuesday && common && part >= 9*hour+204
		monday := weekday(day) == api.Monday && afterLeap && part >= 15*hour+589
		t.elapsed = append(t.elapsed, allowed(day, late)+2092590)
		t.years = append(t.years, allowed(day, late || tuesday || monday))
		parts += len(monthsOf(min(year, 20000))) * (29*24*hour + 12*hour + 793)
	}
	return t
})

// allowed puts a new year off by a day if it is late, and then to a weekday on which a year may begin.
func allowed(day int, late bool) int {
	if late {
		day++
	}
	switch weekday(day) {
	case api.Sunday, api.Wednesday, api.Friday:
		day++
	}
	return day
}

func yearLength(year int) int {
	if year < 1 || year > 20000 {
		return 0
	}
	years := traditional().years
	return years[year+1] - years[year]
}

func length(year, month int) int {
	i := slices.Index(monthsOf(year), month)
	if i < 0 {
		return 0
	}
	return lengthsOf[yearLength(year)][i]
}

// all goes through all days with their dates, by counting them one by one, also those that are not from MinDay to MaxDay - 1.
func all() iter.Seq2[int, api.Date] {
	return func(yield func(int, api.Date) bool) {
		day := -2092590
		for year := 1; year <= 20000; year++ {
			lengths := lengthsOf[yearLength(year)]
			for i, month := range monthsOf(year) {
				for n := 1; n <= lengths[i]; n++ {
					if !yield(day, date(year, month, n)) {
						return
					}
					day++
				}
			}
		}
	}
}

func inDays(day int) bool { return day >= api.MinDay && day < api.MaxDay }

func TestP71Years(t *testing.T) {
	for year := -100; year <= 20100; year++ {
		if b := Leap(year); b != leap(year) {
			t.Errorf("Leap(%d) = %t", year, b)
		}
		if n := Months(year); n != len(monthsOf(year)) {
			t.Errorf("Months(%d) = %d", year, n)
		}
		if n := YearLength(year); n != yearLength(year) {
			t.Errorf("YearLength(%d) = %d", year, n)
		}
	}
	for _, c := range []struct {
		year, months, length int
		leap                 bool
	}{
		{1, 12, 355, false}, {3, 13, 383, true}, {5782, 13, 384, true}, {5783, 12, 355, false}, {5784, 13, 383, true}, {5785, 12, 355, false}, {5786, 12, 354, false}, {5787, 13, 385, true}, {5788, 12, 355, false}, {5789, 12, 354, false},
		{5765, 13, 383, true}, {5766, 12, 354, false}, {5781, 12, 353, false}, {5777, 12, 353, false}, {5776, 13, 385, true}, {20000, 12, 355, false}, {0, 0, 0, false}, {20001, 0, 0, false}, {-16, 0, 0, false}, {20002, 0, 0, false},
	} {
		if b, m, n := Leap(c.year), Months(c.year), YearLength(c.year); b != c.leap || m != c.months || n != c.length {
			t.Errorf("%d: Leap %t, Months %d, YearLength %d", c.year, b, m, n)
		}
	}
	for _, year := range badYears {
		if b, m, n := Leap(year), Months(year), YearLength(year); b || m != 0 || n != 0 {
			t.Errorf("%d: Leap %t, Months %d, YearLength %d", year, b, m, n)
		}
	}
}

func TestP71Length(t *testing.T) {
	for year := -30; year <= 20030; year++ {
		for month := -3; month <= 16; month++ {
			if n := Length(year, month); n != length(year, month) {
				t.Fatalf("Length(%d, %d) = %d", year, month, n)
			}
		}
	}
	for _, c := range []struct{ year, month, length int }{
		{5786, 7, 30}, {5786, 8, 29}, {5786, 9, 30}, {5786, 12, 29}, {5786, 13, 0}, {5786, 1, 30}, {5786, 6, 29}, {5784, 8, 29}, {5784, 9, 29}, {5784, 12, 30}, {5784, 13, 29}, {5784, 14, 0}, {5785, 8, 30}, {5785, 9, 30}, {5787, 8, 30}, {5787, 9, 30}, {5787, 13, 29},
		{5781, 8, 29}, {5781, 9, 29}, {5782, 8, 29}, {5782, 9, 30}, {5782, 0, 0}, {5782, -1, 0}, {0, 7, 0}, {20001, 7, 0}, {0, 8, 0}, {20001, 9, 0}, {0, 12, 0}, {0, 13, 0}, {20000, 6, 29}, {1, 7, 30},
	} {
		if n := Length(c.year, c.month); n != c.length {
			t.Errorf("Length(%d, %d) = %d", c.year, c.month, n)
		}
	}
	for _, year := range append(badYears, strange...) {
		for _, month := range append(strange, 4, 5, 10, 15) {
			if n := Length(year, month); n != length(year, month) {
				t.Errorf("Length(%d, %d) = %d", year, month, n)
			}
		}
	}
}

// TestP76Lengths has the lengths of years, the sums of months, and cycles of 19 years, also those that do not begin with the first year of a cycle.
func TestP76Lengths(t *testing.T) {
	seen := map[int]int{}
	for year := 1; year <= 20000; year++ {
		sum := 0
		for month := 1; month <= Months(year); month++ {
			sum += Length(year, month)
		}
		if n := YearLength(year); n != sum {
			t.Errorf("YearLength(%d) = %d; the months have %d", year, n, sum)
		}
		seen[sum]++
	}
	for _, n := range []int{353, 354, 355, 383, 384, 385} {
		if seen[n] == 0 {
			t.Errorf("no year has %d days", n)
		}
		delete(seen, n)
	}
	if len(seen) > 0 {
		t.Errorf("other lengths: %v", seen)
	}
	for first := 1; first <= 20000-18; first++ {
		months := 0
		for year := first; year < first+19; year++ {
			months += Months(year)
		}
		if months != 235 {
			t.Errorf("%d months from the year %d on", months, first)
		}
	}
}

// TestP1 calls every function with all numbers that may be dangerous: none of them panics, and with an error the other results are zero.
func TestP1(t *testing.T) {
	check := func(e api.Errno, zero bool) {
		t.Helper()
		if e != api.OK && !zero {
			t.Errorf("a result beside the error %d", e)
		}
	}
	for _, a := range strange {
		_, _, _ = Leap(a), Months(a), YearLength(a)
		n, e := Elapsed(a)
		check(e, n == 0)
		n, e = New(a)
		check(e, n == 0)
		d, e := Date(a)
		check(e, d == api.Date{})
		for _, b := range strange {
			_ = Length(a, b)
			day, part, e := Molad(a, b)
			check(e, day == 0 && part == 0)
			for _, c := range strange {
				n, e := Day(date(a, b, c))
				check(e, n == 0)
				for _, year := range strange {
					d, e := Anniversary(date(a, b, c), year)
					check(e, d == api.Date{})
				}
			}
		}
	}
}
