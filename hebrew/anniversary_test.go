package hebrew

import (
	"slices"
	"testing"

	"civiltime/api"
)

func TestP75Examples(t *testing.T) {
	for _, c := range []struct {
		d    api.Date
		year int
		want api.Date
	}{
		{date(5786, 3, 6), 5790, date(5790, 3, 6)}, {date(5786, 3, 6), 5700, date(5700, 3, 6)}, {date(5786, 7, 1), 5787, date(5787, 7, 1)}, {date(5786, 6, 29), 5787, date(5787, 6, 29)}, {date(5786, 7, 30), 5784, date(5784, 7, 30)},
		// the last month of a common year, and that of a leap year
		{date(5786, 12, 14), 5787, date(5787, 13, 14)}, {date(5784, 13, 14), 5786, date(5786, 12, 14)}, {date(5784, 13, 14), 5787, date(5787, 13, 14)}, {date(5786, 12, 29), 5787, date(5787, 13, 29)}, {date(5785, 12, 14), 5786, date(5786, 12, 14)},
		// the month 12 of a leap year, which is not the last one
		{date(5784, 12, 14), 5786, date(5786, 12, 14)}, {date(5784, 12, 14), 5787, date(5787, 12, 14)}, {date(5784, 12, 30), 5787, date(5787, 12, 30)},
		// days 30 that do not exist
		{date(5784, 12, 30), 5786, date(5786, 1, 1)}, {date(5785, 8, 30), 5786, date(5786, 9, 1)}, {date(5785, 9, 30), 5784, date(5784, 10, 1)}, {date(5785, 8, 30), 5787, date(5787, 8, 30)}, {date(5786, 9, 30), 5781, date(5781, 10, 1)},
		// days of which no days from MinDay to MaxDay - 1 need be
		{date(1, 7, 1), 20000, date(20000, 7, 1)}, {date(20000, 6, 29), 1, date(1, 6, 29)}, {date(1, 7, 1), 1, date(1, 7, 1)}, {date(20000, 6, 29), 20000, date(20000, 6, 29)}, {date(1, 12, 29), 19999, date(19999, 13, 29)}, {date(5784, 12, 30), 1, date(1, 1, 1)}, {date(5784, 12, 30), 20000, date(20000, 1, 1)}, {date(5785, 8, 30), 20000, date(20000, 8, 30)},
	} {
		if d, e := Anniversary(c.d, c.year); d != c.want || e != api.OK {
			t.Errorf("Anniversary(%v, %d) = %v, %d; want %v", c.d, c.year, d, e, c.want)
		}
	}
}

// anniversary goes by the lists of months and lengths: a day that the month does not have is in the next month.
func anniversary(d api.Date, year int) api.Date {
	month := d.Month
	if month == len(monthsOf(d.Year)) {
		month = len(monthsOf(year))
	}
	i := slices.Index(monthsOf(year), month)
	lengths := lengthsOf[yearLength(year)]
	if d.Day > lengths[i] {
		return date(year, monthsOf(year)[i+1], d.Day-lengths[i])
	}
	return date(year, month, d.Day)
}

// kinds are years of all lengths, and the first and the last ones.
func kinds(t *testing.T) []int {
	years := []int{1, 2, 3, 19998, 19999, 20000}
	for n := range lengthsOf {
		year := 5700
		for yearLength(year) != n {
			year++
		}
		years = append(years, year)
	}
	if len(years) != 12 {
		t.Fatal(years)
	}
	return years
}

func TestP75AllYears(t *testing.T) {
	for _, from := range kinds(t) {
		for _, month := range monthsOf(from) {
			for _, day := range []int{1, length(from, month)} {
				d := date(from, month, day)
				for year := 1; year <= 20000; year++ {
					want := anniversary(d, year)
					if a, e := Anniversary(d, year); a != want || e != api.OK {
						t.Fatalf("Anniversary(%v, %d) = %v, %d; want %v", d, year, a, e, want)
					}
				}
			}
		}
	}
}

// TestP75AllDates has the dates of all years, in years of all lengths.
func TestP75AllDates(t *testing.T) {
	years := kinds(t)
	i := 0
	for _, d := range all() {
		year := years[i%len(years)]
		i++
		want := anniversary(d, year)
		if a, e := Anniversary(d, year); a != want || e != api.OK {
			t.Fatalf("Anniversary(%v, %d) = %v, %d; want %v", d, year, a, e, want)
		}
	}
}

func TestP75Errors(t *testing.T) {
	refused := func(d api.Date, year int) {
		t.Helper()
		if a, e := Anniversary(d, year); a != (api.Date{}) || e != api.ErrRange {
			t.Errorf("Anniversary(%v, %d) = %v, %d", d, year, a, e)
		}
	}
	for _, d := range badDates {
		for _, year := range append(badYears, 1, 5784, 5786, 19999, 20000) {
			refused(d, year)
		}
	}
	for _, year := range badYears {
		for _, d := range []api.Date{date(5786, 8, 1), date(1, 7, 1), date(20000, 6, 29), date(5784, 12, 30), date(5784, 13, 1)} {
			refused(d, year)
		}
	}
	for year := 1; year <= 20000; year++ {
		for _, month := range monthsOf(year) {
			refused(date(year, month, 0), 5786)
			refused(date(year, month, length(year, month)+1), 5784)
		}
		refused(date(year, 0, 1), 5786)
		refused(date(year, len(monthsOf(year))+1, 1), 5786)
	}
}
