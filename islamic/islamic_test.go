package islamic

import (
	"iter"
	"math"
	"slices"
	"testing"

	"civiltime/api"
)

func date(year, month, day int) api.Date { return api.Date{Year: year, Month: month, Day: day} }

// strange are integers at and beyond the bounds of kinds, years, months, days, and int.
var strange = []int{
	math.MinInt, math.MinInt + 1, -1 << 62, -1 << 32, api.MinTime, api.MinDay - 1, api.MinDay, -492149, -492148, -492147, -10631, -9600, -360, -355, -354, -30, -2, -1,
	0, 1, 2, 3, 4, 5, 11, 12, 13, 28, 29, 30, 31, 32, 60, 61, 354, 355, 356, 359, 360, 361, 622, 720, 9570, 9571, 9572, 9599, 9600, 9601, 9602, 9999, 10000, 10631,
	2909771, 2909772, 2909773, api.MaxDay - 1, api.MaxDay, api.MaxTime, 1 << 32, 1 << 62, math.MaxInt - 1, math.MaxInt,
}

// badKinds are no kinds.
var badKinds = []int{math.MinInt, math.MinInt + 1, -4, -1, 0, 5, 6, 32, 1<<32 + 1, 1<<62 + 2, math.MaxInt}

// leaps are the leap years of a cycle for each kind.
var leaps = [5][]int{
	1: {2, 5, 7, 10, 13, 15, 18, 21, 24, 26, 29},
	2: {2, 5, 7, 10, 13, 16, 18, 21, 24, 26, 29},
	3: {2, 5, 8, 10, 13, 16, 19, 21, 24, 27, 29},
	4: {2, 5, 8, 11, 13, 16, 19, 21, 24, 27, 30},
}

// Behind the years of the calendar there is the day that New gives for the year 9601.
const (
	firstDay  = -492148
	behindDay = firstDay + 320*10631
)

// leapYear goes by the lists; there is no such year for other kinds and years.
func leapYear(kind, year int) bool {
	return kind >= 1 && kind <= 4 && year >= 1 && year <= 9600 && slices.Contains(leaps[kind], (year-1)%30+1)
}

func length(kind, year, month int) int {
	if kind < 1 || kind > 4 || year < 1 || year > 9600 {
		return 0
	}
	switch month {
	case 1, 3, 5, 7, 9, 11:
		return 30
	case 2, 4, 6, 8, 10:
		return 29
	case 12:
		if leapYear(kind, year) {
			return 30
		}
		return 29
	}
	return 0
}

// all goes through all days with their dates, by counting them one by one.
func all(kind int) iter.Seq2[int, api.Date] {
	return func(yield func(int, api.Date) bool) {
		day := firstDay
		for year := 1; year <= 9600; year++ {
			for month := 1; month <= 12; month++ {
				for i := 1; i <= length(kind, year, month); i++ {
					if !yield(day, date(year, month, i)) {
						return
					}
					day++
				}
			}
		}
	}
}

func TestP61Valid(t *testing.T) {
	for kind := 1; kind <= 4; kind++ {
		if !Valid(kind) {
			t.Errorf("not Valid(%d)", kind)
		}
	}
	for _, kind := range badKinds {
		if Valid(kind) {
			t.Errorf("Valid(%d)", kind)
		}
	}
}

func TestP61Leap(t *testing.T) {
	for kind := -2; kind <= 7; kind++ {
		for year := -100; year <= 9700; year++ {
			if b := Leap(kind, year); b != leapYear(kind, year) {
				t.Errorf("Leap(%d, %d) = %t", kind, year, b)
			}
		}
	}
	for _, c := range []struct {
		kind, year int
		leap       bool
	}{
		{1, 15, true}, {1, 16, false}, {2, 15, false}, {2, 16, true}, {2, 18, true}, {3, 18, false}, {3, 19, true}, {3, 10, true}, {4, 10, false}, {4, 11, true}, {3, 29, true}, {4, 29, false}, {4, 30, true}, {3, 30, false},
		{1, 1445, true}, {1, 1446, false}, {1, 1, false}, {1, 2, true}, {1, 9599, true}, {1, 9600, false}, {4, 9599, false}, {4, 9600, true}, {4, 0, false}, {4, 9630, false}, {4, -30, false}, {1, 9602, false}, {1, -28, false},
	} {
		if b := Leap(c.kind, c.year); b != c.leap {
			t.Errorf("Leap(%d, %d) = %t", c.kind, c.year, b)
		}
	}
	for _, kind := range badKinds {
		for year := 1; year <= 30; year++ {
			if Leap(kind, year) {
				t.Errorf("Leap(%d, %d)", kind, year)
			}
		}
	}
	for _, year := range strange {
		for kind := 1; kind <= 4; kind++ {
			if b := Leap(kind, year); b != leapYear(kind, year) {
				t.Errorf("Leap(%d, %d) = %t", kind, year, b)
			}
		}
	}
}

func TestP61Length(t *testing.T) {
	for kind := -1; kind <= 6; kind++ {
		for year := -31; year <= 9640; year++ {
			for month := -1; month <= 14; month++ {
				if n := Length(kind, year, month); n != length(kind, year, month) {
					t.Fatalf("Length(%d, %d, %d) = %d", kind, year, month, n)
				}
			}
		}
	}
	for _, year := range strange {
		for _, month := range strange {
			for _, kind := range append(badKinds, 1, 2, 3, 4) {
				if n := Length(kind, year, month); n != length(kind, year, month) {
					t.Errorf("Length(%d, %d, %d) = %d", kind, year, month, n)
				}
			}
		}
	}
}

func TestP61YearLength(t *testing.T) {
	sum := func(kind, year int) int {
		n := 0
		for month := 1; month <= 12; month++ {
			n += length(kind, year, month)
		}
		return n
	}
	for kind := -1; kind <= 6; kind++ {
		for year := -31; year <= 9640; year++ {
			if n := YearLength(kind, year); n != sum(kind, year) {
				t.Errorf("YearLength(%d, %d) = %d", kind, year, n)
			}
		}
	}
	for _, c := range []struct{ kind, year, length int }{{1, 1445, 355}, {1, 1446, 354}, {1, 1, 354}, {1, 2, 355}, {4, 9600, 355}, {3, 9600, 354}, {1, 0, 0}, {1, 9601, 0}, {0, 2, 0}, {5, 2, 0}} {
		if n := YearLength(c.kind, c.year); n != c.length {
			t.Errorf("YearLength(%d, %d) = %d", c.kind, c.year, n)
		}
	}
	for _, year := range strange {
		for _, kind := range append(badKinds, 1, 2, 3, 4) {
			if n := YearLength(kind, year); n != sum(kind, year) {
				t.Errorf("YearLength(%d, %d) = %d", kind, year, n)
			}
		}
	}
}

// TestP1 calls every function with all numbers that may be dangerous: none of them panics, and with an error the other result is zero.
func TestP1(t *testing.T) {
	check := func(e api.Errno, zero bool) {
		t.Helper()
		if e != api.OK && !zero {
			t.Errorf("a result beside the error %d", e)
		}
	}
	for _, kind := range append(badKinds, 1, 2, 3, 4) {
		for _, a := range strange {
			n, e := New(kind, a)
			check(e, n == 0)
			d, e := Date(kind, a)
			check(e, d == api.Date{})
			_, _ = Leap(kind, a), YearLength(kind, a)
			for _, b := range strange {
				_ = Length(kind, a, b)
				c, e := Months(kind, a, b)
				check(e, c.Origin == 0 && c.Period == 0 && len(c.L) == 0)
				for _, c := range strange {
					n, e = Day(kind, date(a, b, c))
					check(e, n == 0)
					l, e := Moved(kind, date(0, b, c), a)
					check(e, len(l) == 0)
				}
			}
		}
	}
}
