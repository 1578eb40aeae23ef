package julian

import (
	"math"
	"testing"

	"civiltime/api"
	"civiltime/civil"
)

// examples are Julian dates with the Gregorian dates of their days.
var examples = []struct{ julian, gregorian api.Date }{
	{date(1, 1, 3), date(1, 1, 1)}, {date(1, 3, 1), date(1, 2, 27)}, {date(4, 2, 29), date(4, 2, 27)}, {date(4, 3, 1), date(4, 2, 28)}, {date(4, 3, 2), date(4, 2, 29)}, {date(4, 3, 3), date(4, 3, 1)},
	{date(100, 2, 29), date(100, 2, 27)}, {date(100, 3, 1), date(100, 2, 28)}, {date(100, 3, 2), date(100, 3, 1)}, {date(200, 2, 29), date(200, 2, 28)}, {date(200, 3, 1), date(200, 3, 1)},
	{date(300, 2, 28), date(300, 2, 28)}, {date(300, 2, 29), date(300, 3, 1)}, {date(300, 3, 1), date(300, 3, 2)}, {date(325, 3, 21), date(325, 3, 22)},
	{date(1582, 10, 4), date(1582, 10, 14)}, {date(1582, 10, 5), date(1582, 10, 15)}, {date(1752, 9, 2), date(1752, 9, 13)}, {date(1752, 9, 3), date(1752, 9, 14)},
	{date(1899, 12, 31), date(1900, 1, 12)}, {date(1900, 2, 28), date(1900, 3, 12)}, {date(1900, 2, 29), date(1900, 3, 13)}, {date(1900, 3, 1), date(1900, 3, 14)}, {date(1917, 10, 25), date(1917, 11, 7)},
	{date(1969, 12, 19), date(1970, 1, 1)}, {date(2000, 2, 29), date(2000, 3, 13)}, {date(2026, 2, 15), date(2026, 2, 28)}, {date(9999, 10, 19), date(9999, 12, 31)}, {date(9999, 10, 18), date(9999, 12, 30)},
}

func TestP52Examples(t *testing.T) {
	for _, c := range examples {
		day, e := civil.Day(c.gregorian)
		if e != api.OK {
			t.Fatalf("civil.Day(%v): %d", c.gregorian, e)
		}
		if n, e := Day(c.julian); n != day || e != api.OK {
			t.Errorf("Day(%v) = %d, %d; want %d", c.julian, n, e, day)
		}
		if d, e := Date(day); d != c.julian || e != api.OK {
			t.Errorf("Date(%d) = %v, %d; want %v", day, d, e, c.julian)
		}
	}
}

func TestP52Errors(t *testing.T) {
	for _, d := range invalid {
		if day, e := Day(d); day != 0 || e != api.ErrArg {
			t.Errorf("Day(%v) = %d, %d", d, day, e)
		}
	}
	for _, d := range []api.Date{date(1, 1, 1), date(1, 1, 2), date(9999, 10, 20), date(9999, 10, 31), date(9999, 11, 1), date(9999, 12, 31)} {
		if day, e := Day(d); day != 0 || e != api.ErrRange {
			t.Errorf("Day(%v) = %d, %d", d, day, e)
		}
	}
}

func TestP52AllDates(t *testing.T) {
	for day, d := range julianOnes.all() {
		want, wantE := day, api.OK
		if day < api.MinDay || day >= api.MaxDay {
			want, wantE = 0, api.ErrRange
		}
		if n, e := Day(d); n != want || e != wantE {
			t.Fatalf("Day(%v) = %d, %d; want %d, %d", d, n, e, want, wantE)
		}
	}
}

func TestP53AllDays(t *testing.T) {
	count := 0
	for day, want := range julianOnes.within() {
		if d, e := Date(day); d != want || e != api.OK {
			t.Fatalf("Date(%d) = %v, %d; want %v", day, d, e, want)
		}
		count++
	}
	if count != api.MaxDay-api.MinDay {
		t.Errorf("%d days", count)
	}
}

func TestP53Number(t *testing.T) {
	for _, c := range []struct{ day, number int }{
		{0, 2440588}, {1, 2440589}, {-1, 2440587}, {10957, 2451545}, {-2440588 + 2299161, 2299161}, {api.MinDay, 1721426}, {api.MaxDay - 1, 5373484},
	} {
		if n, e := Number(c.day); n != c.number || e != api.OK {
			t.Errorf("Number(%d) = %d, %d", c.day, n, e)
		}
	}
	for day := api.MinDay; day < api.MaxDay; day++ {
		if n, e := Number(day); n != day+2440588 || e != api.OK {
			t.Fatalf("Number(%d) = %d, %d", day, n, e)
		}
	}
}

func TestP53Offset(t *testing.T) {
	for _, c := range []struct {
		from, to api.Date // Gregorian dates, the last one included
		offset   int
	}{
		{date(1, 1, 1), date(100, 2, 28), -2}, {date(100, 3, 1), date(200, 2, 28), -1}, {date(200, 3, 1), date(300, 2, 28), 0}, {date(300, 3, 1), date(500, 2, 28), 1},
		{date(1500, 3, 1), date(1700, 2, 28), 10}, {date(1700, 3, 1), date(1800, 2, 28), 11}, {date(1800, 3, 1), date(1900, 2, 28), 12}, {date(1900, 3, 1), date(2100, 2, 28), 13}, {date(2100, 3, 1), date(2200, 2, 28), 14},
		{date(9900, 3, 1), date(9999, 12, 31), 73},
	} {
		from, _ := civil.Day(c.from)
		to, _ := civil.Day(c.to)
		for day := from; day <= to; day++ {
			if n, e := Offset(day); n != c.offset || e != api.OK {
				t.Fatalf("Offset(%d) = %d, %d; want %d", day, n, e, c.offset)
			}
		}
	}
}

// TestP53OffsetAllDays reads each Gregorian date as a Julian one.
func TestP53OffsetAllDays(t *testing.T) {
	days := tableOf()
	for day, d := range julianOnes.all() {
		days[place(d)] = day
	}
	for day, d := range gregorian.all() {
		if n, e := Offset(day); n != days[place(d)]-day || e != api.OK {
			t.Fatalf("Offset(%d) = %d, %d; want %d", day, n, e, days[place(d)]-day)
		}
	}
}

func TestP53Errors(t *testing.T) {
	for _, day := range []int{api.MinDay - 1, api.MinDay - 2, api.MinDay - 308, api.MaxDay, api.MaxDay + 1, api.MaxDay + 73, api.MinTime, api.MaxTime, math.MinInt, math.MinInt + 1, math.MaxInt - 2440588, math.MaxInt - 1, math.MaxInt} {
		if d, e := Date(day); d != (api.Date{}) || e != api.ErrRange {
			t.Errorf("Date(%d) = %v, %d", day, d, e)
		}
		if n, e := Number(day); n != 0 || e != api.ErrRange {
			t.Errorf("Number(%d) = %d, %d", day, n, e)
		}
		if n, e := Offset(day); n != 0 || e != api.ErrRange {
			t.Errorf("Offset(%d) = %d, %d", day, n, e)
		}
	}
}

func TestP56OneToOne(t *testing.T) {
	before := api.Date{}
	for day := api.MinDay; day < api.MaxDay; day++ {
		d, e := Date(day)
		if e != api.OK || place(d) <= place(before) && day > api.MinDay {
			t.Fatalf("Date(%d) = %v, %d, after %v", day, d, e, before)
		}
		if n, e := Day(d); n != day || e != api.OK {
			t.Fatalf("Day(Date(%d)) = %d, %d", day, n, e)
		}
		before = d
	}
}

func TestP56FourYears(t *testing.T) {
	for day := api.MinDay; day < api.MaxDay-1461; day++ {
		d, _ := Date(day)
		if later, e := Date(day + 1461); later != date(d.Year+4, d.Month, d.Day) || e != api.OK {
			t.Fatalf("Date(%d) = %v, %d; four years before %v", day+1461, later, e, d)
		}
	}
}

func TestP56Offset(t *testing.T) {
	for day := api.MinDay; day < api.MaxDay; day++ {
		d, _ := civil.Date(day)
		offset, _ := Offset(day)
		want, wantE := day+offset, api.OK
		if want < api.MinDay || want >= api.MaxDay {
			want, wantE = 0, api.ErrRange
		}
		if n, e := Day(d); n != want || e != wantE {
			t.Fatalf("Day(%v) = %d, %d; want %d", d, n, e, want)
		}
	}
}

func TestP56Weekday(t *testing.T) {
	for day := api.MinDay; day < api.MaxDay; day++ {
		if n, e := Number(day); n%7 != civil.Weekday(day)-1 || e != api.OK {
			t.Fatalf("Number(%d) = %d, %d, on the weekday %d", day, n, e, civil.Weekday(day))
		}
	}
}
