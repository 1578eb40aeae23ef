package feast

import (
	"math"
	"slices"
	"sync"
	"testing"

	"civiltime/api"
	"civiltime/civil"
	"civiltime/julian"
)

// strange are integers at and beyond the bounds of years, offsets, months, days, and int.
var strange = []int{
	math.MinInt, math.MinInt + 1, -1 << 62, -1 << 32, api.MinTime, api.MinDay - 1, api.MinDay, -9999, -401, -400, -19, -7, -2, -1,
	0, 1, 2, 3, 4, 12, 13, 19, 21, 22, 25, 28, 29, 30, 31, 32, 399, 400, 401, 1582, 1583, 2000, 2024, 9998, 9999, 10000, 10001,
	api.MaxDay - 1, api.MaxDay, api.MaxTime, 1 << 32, 1<<32 + 2024, 1 << 62, math.MaxInt - 400, math.MaxInt - 1, math.MaxInt,
}

// badYears are no years.
var badYears = []int{math.MinInt, math.MinInt + 1, -1 << 32, -1<<32 + 2024, -2024, -400, -19, -2, -1, 0, 10000, 10001, 10019, 12024, 1<<32 + 2024, 1 << 62, math.MaxInt - 1, math.MaxInt}

func date(year, month, day int) api.Date { return api.Date{Year: year, Month: month, Day: day} }

// dayOf returns the day of a Gregorian date.
func dayOf(t *testing.T, d api.Date) int {
	t.Helper()
	day, e := civil.Day(d)
	if e != api.OK {
		t.Fatalf("civil.Day(%v): %d", d, e)
	}
	return day
}

// easters have the day of Easter Sunday of each year, by the anonymous Gregorian algorithm, which knows no epacts.
var easters = sync.OnceValue(func() []int {
	l := []int{0}
	for year := 1; year <= 9999; year++ {
		a, b, c := year%19, year/100, year%100
		d, e := b/4, b%4
		g := (b - (b+8)/25 + 1) / 3
		h := (19*a + b - d - g + 15) % 30
		i, k := c/4, c%4
		n := (32 + 2*e + 2*i - h - k) % 7
		m := (a + 11*h + 22*n) / 451
		p := h + n - 7*m + 114
		day, _ := civil.Day(date(year, p/31, p%31+1))
		l = append(l, day)
	}
	return l
})

// A moon is a full moon of a golden number.
type moon struct{ month, day int }

// oldMoons are the full moons of the Julian calendar, by golden numbers from 1 on.
var oldMoons = []moon{{4, 5}, {3, 25}, {4, 13}, {4, 2}, {3, 22}, {4, 10}, {3, 30}, {4, 18}, {4, 7}, {3, 27}, {4, 15}, {4, 4}, {3, 24}, {4, 12}, {4, 1}, {3, 21}, {4, 9}, {3, 29}, {4, 17}}

// newMoons are those of the Gregorian calendar from 1900 to 2199.
var newMoons = []moon{{4, 14}, {4, 3}, {3, 23}, {4, 11}, {3, 31}, {4, 18}, {4, 8}, {3, 28}, {4, 16}, {4, 5}, {3, 25}, {4, 13}, {4, 2}, {3, 22}, {4, 10}, {3, 30}, {4, 17}, {4, 7}, {3, 27}}

// nextSunday goes to the first Sunday behind a day, one day at a time.
func nextSunday(day int) int {
	day++
	for civil.Weekday(day) != api.Sunday {
		day++
	}
	return day
}

func TestP81Examples(t *testing.T) {
	for _, c := range []struct{ year, golden, epact int }{
		{2000, 6, 24}, {2024, 11, 19}, {1981, 6, 24}, {1954, 17, 25}, {1943, 6, 24}, {1818, 14, 23}, {2025, 12, 0}, {2026, 13, 11}, {1900, 1, 29}, {1899, 19, 18}, {1583, 7, 7}, {1, 2, 19}, {18, 19, 26}, {19, 1, 8}, {9999, 6, 20},
		// the sums of which the epacts are remainders are negative here
		{9899, 1, 25}, {9918, 1, 25}, {9994, 1, 25},
	} {
		if n := Golden(c.year); n != c.golden {
			t.Errorf("Golden(%d) = %d; want %d", c.year, n, c.golden)
		}
		if n := Epact(c.year); n != c.epact {
			t.Errorf("Epact(%d) = %d; want %d", c.year, n, c.epact)
		}
	}
}

// TestP81AllYears goes from year to year: an epact grows by 11 days, and by 12 at the end of a cycle; it is corrected by a day where a leap day is left out, and, in the other direction, eight times in 25 centuries.
func TestP81AllYears(t *testing.T) {
	golden, epact, moons := 1, 8, 200
	for year := 1; year <= 9999; year++ {
		golden, epact = golden+1, epact+11
		if golden == 20 {
			golden, epact = 1, epact+1
		}
		if year%100 == 0 && year%400 != 0 {
			epact--
		}
		if year == moons {
			epact++
			moons += 300
			if year == 1400 || year == 3900 || year == 6400 || year == 8900 {
				moons += 100
			}
		}
		epact = (epact + 30) % 30
		if n := Golden(year); n != golden {
			t.Fatalf("Golden(%d) = %d; want %d", year, n, golden)
		}
		if n := Epact(year); n != epact {
			t.Fatalf("Epact(%d) = %d; want %d", year, n, epact)
		}
	}
}

func TestP81Errors(t *testing.T) {
	for _, year := range badYears {
		if n := Golden(year); n != 0 {
			t.Errorf("Golden(%d) = %d", year, n)
		}
		if n := Epact(year); n != -1 {
			t.Errorf("Epact(%d) = %d", year, n)
		}
	}
}

// known are the dates of Easter Sunday, and of Julian Easter, in the Gregorian calendar.
var known = []struct{ easter, julianEaster api.Date }{
	{date(2000, 4, 23), date(2000, 4, 30)}, {date(2001, 4, 15), date(2001, 4, 15)}, {date(2002, 3, 31), date(2002, 5, 5)}, {date(2003, 4, 20), date(2003, 4, 27)}, {date(2004, 4, 11), date(2004, 4, 11)}, {date(2005, 3, 27), date(2005, 5, 1)},
	{date(2006, 4, 16), date(2006, 4, 23)}, {date(2007, 4, 8), date(2007, 4, 8)}, {date(2008, 3, 23), date(2008, 4, 27)}, {date(2009, 4, 12), date(2009, 4, 19)}, {date(2010, 4, 4), date(2010, 4, 4)}, {date(2011, 4, 24), date(2011, 4, 24)},
	{date(2012, 4, 8), date(2012, 4, 15)}, {date(2013, 3, 31), date(2013, 5, 5)}, {date(2014, 4, 20), date(2014, 4, 20)}, {date(2015, 4, 5), date(2015, 4, 12)}, {date(2016, 3, 27), date(2016, 5, 1)}, {date(2017, 4, 16), date(2017, 4, 16)},
	{date(2018, 4, 1), date(2018, 4, 8)}, {date(2019, 4, 21), date(2019, 4, 28)}, {date(2020, 4, 12), date(2020, 4, 19)}, {date(2021, 4, 4), date(2021, 5, 2)}, {date(2022, 4, 17), date(2022, 4, 24)}, {date(2023, 4, 9), date(2023, 4, 16)},
	{date(2024, 3, 31), date(2024, 5, 5)}, {date(2025, 4, 20), date(2025, 4, 20)}, {date(2026, 4, 5), date(2026, 4, 12)}, {date(2027, 3, 28), date(2027, 5, 2)}, {date(2028, 4, 16), date(2028, 4, 16)}, {date(2029, 4, 1), date(2029, 4, 8)}, {date(2030, 4, 21), date(2030, 4, 28)},
}

func TestP82Known(t *testing.T) {
	for _, c := range known {
		if day, e := Easter(c.easter.Year); day != dayOf(t, c.easter) || e != api.OK {
			t.Errorf("Easter(%d) = %d, %d; want %v", c.easter.Year, day, e, c.easter)
		}
		if day, e := JulianEaster(c.easter.Year); day != dayOf(t, c.julianEaster) || e != api.OK {
			t.Errorf("JulianEaster(%d) = %d, %d; want %v", c.easter.Year, day, e, c.julianEaster)
		}
	}
	if day, e := Easter(2024); day != 19813 || e != api.OK {
		t.Errorf("Easter(2024) = %d, %d", day, e)
	}
}

// TestP82Corrections has years with the epacts 24 and 25, with and without a correction, and those with the first and the last dates.
func TestP82Corrections(t *testing.T) {
	for _, d := range []api.Date{
		date(1609, 4, 19), date(1981, 4, 19), date(2076, 4, 19), date(2133, 4, 19), date(1954, 4, 18), date(2049, 4, 18), date(2106, 4, 18), date(1916, 4, 23), date(1943, 4, 25), date(1886, 4, 25), date(2038, 4, 25), date(1598, 3, 22), date(1761, 3, 22), date(1818, 3, 22), date(2285, 3, 22), date(1913, 3, 23),
	} {
		if day, e := Easter(d.Year); day != dayOf(t, d) || e != api.OK {
			t.Errorf("Easter(%d) = %d, %d; want %v", d.Year, day, e, d)
		}
	}
}

func TestP82AllYears(t *testing.T) {
	for year := 1; year <= 9999; year++ {
		if day, e := Easter(year); day != easters()[year] || e != api.OK {
			t.Fatalf("Easter(%d) = %d, %d; want %d", year, day, e, easters()[year])
		}
	}
	for year := 1900; year <= 2199; year++ {
		m := newMoons[year%19]
		want := nextSunday(dayOf(t, date(year, m.month, m.day)))
		if day, e := Easter(year); day != want || e != api.OK {
			t.Errorf("Easter(%d) = %d, %d; want %d", year, day, e, want)
		}
	}
}

func TestP82AllJulianYears(t *testing.T) {
	for year := 1; year <= 9999; year++ {
		m := oldMoons[year%19]
		full, e := julian.Day(date(year, m.month, m.day))
		if e != api.OK {
			t.Fatalf("julian.Day(%d, %v): %d", year, m, e)
		}
		want := nextSunday(full)
		if day, e := JulianEaster(year); day != want || e != api.OK {
			t.Fatalf("JulianEaster(%d) = %d, %d; want %d", year, day, e, want)
		}
	}
}

func TestP82Errors(t *testing.T) {
	for _, year := range badYears {
		if day, e := Easter(year); day != 0 || e != api.ErrRange {
			t.Errorf("Easter(%d) = %d, %d", year, day, e)
		}
		if day, e := JulianEaster(year); day != 0 || e != api.ErrRange {
			t.Errorf("JulianEaster(%d) = %d, %d", year, day, e)
		}
	}
}

func TestP86Sundays(t *testing.T) {
	dates := map[api.Date]bool{}
	for year := 1; year <= 9999; year++ {
		day, _ := Easter(year)
		first, last := dayOf(t, date(year, 3, 22)), dayOf(t, date(year, 4, 25))
		if civil.Weekday(day) != api.Sunday || day < first || day > last || day < nextSunday(first-1) {
			t.Errorf("Easter(%d) = %d, on the weekday %d", year, day, civil.Weekday(day))
		}
		d, _ := civil.Date(day)
		dates[date(0, d.Month, d.Day)] = true
	}
	if len(dates) != 35 {
		t.Errorf("Easter Sunday is on %d dates", len(dates))
	}
}

// TestP86Julian has the dates of Julian Easter in the Julian calendar, where it stands for the same bounds.
func TestP86Julian(t *testing.T) {
	dates := []api.Date{{}}
	for year := 1; year <= 9999; year++ {
		day, _ := JulianEaster(year)
		first, _ := julian.Day(date(year, 3, 22))
		last, _ := julian.Day(date(year, 4, 25))
		if civil.Weekday(day) != api.Sunday || day < first || day > last {
			t.Errorf("JulianEaster(%d) = %d, on the weekday %d", year, day, civil.Weekday(day))
		}
		d, _ := julian.Date(day)
		dates = append(dates, date(0, d.Month, d.Day))
	}
	if !slices.Equal(dates[1:9999-532+1], dates[532+1:]) {
		t.Error("the dates of Julian Easter do not repeat after 532 years")
	}
	for _, prime := range []int{2, 7, 19} {
		if n := 532 / prime; slices.Equal(dates[1:9999-n+1], dates[n+1:]) {
			t.Errorf("the dates of Julian Easter repeat after %d years", n)
		}
	}
}

// TestP86Period has the full moons of years far beyond the last one of the exported functions. The period is divisible by 400 years, after which weekdays repeat, so that it is one of the dates of Easter, too.
func TestP86Period(t *testing.T) {
	const period = 5_700_000
	if period%400 != 0 {
		t.Fatal(period)
	}
	repeat := func(from, to, n int) bool {
		for year := from; year <= to; year++ {
			if fullMoon(year) != fullMoon(year+n) {
				return false
			}
		}
		return true
	}
	if !repeat(1, period, period) {
		t.Errorf("full moons do not repeat after %d years", period)
	}
	for _, prime := range []int{2, 3, 5, 19} {
		if repeat(1, 9999, period/prime) {
			t.Errorf("full moons repeat after %d years", period/prime)
		}
	}
}

// TestP1 calls every function with all numbers that may be dangerous: none of them panics, and with an error the other results are zero.
func TestP1(t *testing.T) {
	check := func(e api.Errno, zero bool) {
		t.Helper()
		if e != api.OK && (!zero || e != api.ErrRange) {
			t.Errorf("%d with another result", e)
		}
	}
	for _, a := range strange {
		day, e := Easter(a)
		check(e, day == 0)
		day, e = JulianEaster(a)
		check(e, day == 0)
		year, n, e := Find(a)
		check(e, year == 0 && n == 0)
		if n := Golden(a); n < 0 || n > 19 {
			t.Errorf("Golden(%d) = %d", a, n)
		}
		if n := Epact(a); n < -1 || n > 29 {
			t.Errorf("Epact(%d) = %d", a, n)
		}
		for _, b := range strange {
			day, e := Moveable(a, b)
			check(e, day == 0)
			for _, c := range []int{math.MinInt, -1, 0, 1, 2024, 9999, math.MaxInt} {
				for _, l := range [][]int{Years(a, 4, 20, b, c), Years(a, b, c, 2000, 2030), Years(0, a, b, c, 2030)} {
					if !slices.IsSorted(l) || len(l) > api.MaxList {
						t.Errorf("Years with %d, %d, %d: %v", a, b, c, l)
					}
				}
			}
		}
	}
}
