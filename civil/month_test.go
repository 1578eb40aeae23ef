package civil

import (
	"math"
	"testing"

	"civiltime/api"
)

func TestP24Examples(t *testing.T) {
	for _, c := range []struct {
		d    api.Date
		n    int
		want api.Date
		e    api.Errno
	}{
		{date(2024, 1, 31), 0, date(2024, 1, 31), api.OK}, {date(2024, 1, 31), 1, date(2024, 2, 29), api.OK}, {date(2023, 1, 31), 1, date(2023, 2, 28), api.OK},
		{date(2026, 2, 28), 1, date(2026, 3, 28), api.OK}, {date(2026, 1, 31), 1, date(2026, 2, 28), api.OK}, {date(2024, 2, 29), 12, date(2025, 2, 28), api.OK},
		{date(2024, 2, 29), 48, date(2028, 2, 29), api.OK}, {date(2024, 2, 29), -12, date(2023, 2, 28), api.OK}, {date(2024, 1, 31), -2, date(2023, 11, 30), api.OK},
		{date(2024, 1, 1), -1, date(2023, 12, 1), api.OK}, {date(2023, 12, 31), 1, date(2024, 1, 31), api.OK}, {date(2024, 12, 15), -12, date(2023, 12, 15), api.OK},
		{date(1, 1, 31), 119987, date(9999, 12, 31), api.OK}, {date(9999, 12, 31), -119987, date(1, 1, 31), api.OK},
		{date(9999, 12, 1), 1, api.Date{}, api.ErrRange}, {date(9999, 1, 1), 12, api.Date{}, api.ErrRange}, {date(1, 1, 31), -1, api.Date{}, api.ErrRange}, {date(1, 12, 31), -12, api.Date{}, api.ErrRange},
		{date(1, 1, 1), 119988, api.Date{}, api.ErrRange}, {date(9999, 12, 31), -119988, api.Date{}, api.ErrRange}, {date(1, 1, 1), -13, api.Date{}, api.ErrRange},
		{date(2024, 1, 1), math.MaxInt, api.Date{}, api.ErrRange}, {date(2024, 1, 1), math.MinInt, api.Date{}, api.ErrRange}, {date(9999, 12, 31), math.MaxInt - 1, api.Date{}, api.ErrRange},
		{date(1, 1, 1), math.MaxInt - 12, api.Date{}, api.ErrRange}, {date(1, 1, 1), math.MaxInt - 11, api.Date{}, api.ErrRange},
		{date(2023, 2, 29), 12, api.Date{}, api.ErrArg}, {date(0, 12, 31), 1, api.Date{}, api.ErrArg}, {date(10000, 1, 1), -1, api.Date{}, api.ErrArg}, {date(2024, 0, 1), 1, api.Date{}, api.ErrArg},
	} {
		if d, e := AddMonths(c.d, c.n); d != c.want || e != c.e {
			t.Errorf("AddMonths(%v, %d) = %v, %d", c.d, c.n, d, e)
		}
	}
}

func TestP24ErrorsInOrder(t *testing.T) {
	for _, d := range invalid {
		for _, n := range []int{0, 1, -1, 12, -12, 200000, -200000, math.MaxInt, math.MinInt} {
			if x, e := AddMonths(d, n); x != (api.Date{}) || e != api.ErrArg {
				t.Errorf("AddMonths(%v, %d) = %v, %d", d, n, x, e)
			}
		}
	}
}

// countMonths goes n months on, or back, from a month, one after the other.
func countMonths(year, month, n int) (int, int) {
	for ; n > 0; n-- {
		if month++; month > 12 {
			year, month = year+1, 1
		}
	}
	for ; n < 0; n++ {
		if month--; month < 1 {
			year, month = year-1, 12
		}
	}
	return year, month
}

func TestP24ByCounting(t *testing.T) {
	for _, year := range []int{1, 2, 4, 99, 1900, 1999, 2000, 2023, 2024, 9996, 9998, 9999} {
		for month := 1; month <= 12; month++ {
			for n := -60; n <= 60; n++ {
				y, m := countMonths(year, month, n)
				for day := 1; day <= lengthOf(year, month); day++ {
					want, wantE := date(y, m, min(day, lengthOf(y, m))), api.OK
					if y < 1 || y > 9999 {
						want, wantE = api.Date{}, api.ErrRange
					}
					if x, e := AddMonths(date(year, month, day), n); x != want || e != wantE {
						t.Fatalf("AddMonths(%v, %d) = %v, %d", date(year, month, day), n, x, e)
					}
				}
			}
		}
	}
}

func TestP25Examples(t *testing.T) {
	for _, c := range []struct {
		year, month, weekday, n, day int
		e                            api.Errno
	}{
		{2024, 2, api.Friday, -1, 19776, api.OK}, {2024, 2, api.Friday, 4, 19776, api.OK}, {2024, 2, api.Friday, 1, 19755, api.OK}, {2024, 2, api.Friday, -4, 19755, api.OK},
		{2024, 2, api.Thursday, 5, 19782, api.OK}, {2024, 2, api.Thursday, 1, 19754, api.OK}, {2024, 2, api.Thursday, -5, 19754, api.OK}, {2026, 3, api.Monday, 1, 20514, api.OK},
		{1, 1, api.Monday, 1, api.MinDay, api.OK}, {9999, 12, api.Friday, -1, api.MaxDay - 1, api.OK},
		{2024, 2, api.Friday, 5, 0, api.ErrNone}, {2024, 2, api.Friday, -5, 0, api.ErrNone}, {2024, 2, api.Thursday, 6, 0, api.ErrNone}, {2024, 2, api.Thursday, -6, 0, api.ErrNone},
		{2024, 2, api.Thursday, math.MaxInt, 0, api.ErrNone}, {2024, 2, api.Thursday, math.MinInt, 0, api.ErrNone}, {1, 1, api.Monday, math.MinInt + 1, 0, api.ErrNone},
		// Seven times the number before the first of these, and after the second one, is 1 and -1 in the arithmetic of 64 bits.
		{2024, 2, api.Thursday, 7905747460161236408, 0, api.ErrNone}, {2024, 2, api.Thursday, -7905747460161236408, 0, api.ErrNone},
		{2024, 2, api.Thursday, 0, 0, api.ErrArg}, {2024, 2, 0, 1, 0, api.ErrArg}, {2024, 2, 8, 1, 0, api.ErrArg}, {2024, 2, -1, 1, 0, api.ErrArg},
		{2024, 0, api.Thursday, 1, 0, api.ErrArg}, {2024, 13, api.Thursday, 1, 0, api.ErrArg}, {0, 2, api.Thursday, 1, 0, api.ErrArg}, {10000, 2, api.Thursday, 1, 0, api.ErrArg}, {-4, 2, api.Thursday, 1, 0, api.ErrArg},
		{2024, 13, api.Thursday, 6, 0, api.ErrArg}, {0, 1, api.Monday, math.MaxInt, 0, api.ErrArg}, {2024, 1, 8, math.MinInt, 0, api.ErrArg},
	} {
		if day, e := Nth(c.year, c.month, c.weekday, c.n); day != c.day || e != c.e {
			t.Errorf("Nth(%d, %d, %d, %d) = %d, %d", c.year, c.month, c.weekday, c.n, day, e)
		}
	}
}

// checkNth compares Nth with the list of all days of a month that have the weekday.
func checkNth(t *testing.T, year, month, weekday int, list []int) {
	t.Helper()
	for n := -8; n <= 8; n++ {
		day, wantE := 0, api.ErrNone
		switch {
		case n == 0:
			wantE = api.ErrArg
		case n > 0 && n <= len(list):
			day, wantE = list[n-1], api.OK
		case n < 0 && -n <= len(list):
			day, wantE = list[len(list)+n], api.OK
		}
		if got, e := Nth(year, month, weekday, n); got != day || e != wantE {
			t.Fatalf("Nth(%d, %d, %d, %d) = %d, %d; want %d, %d", year, month, weekday, n, got, e, day, wantE)
		}
	}
}

func TestP25ByListing(t *testing.T) {
	var lists [8][]int
	weekday := api.Monday // of 0001-01-01
	for day, d := range days() {
		lists[weekday] = append(lists[weekday], day)
		weekday = weekday%7 + 1
		if d.Day < lengthOf(d.Year, d.Month) {
			continue
		}
		for w := 1; w <= 7; w++ {
			if d.Year < 9 || d.Year > 1890 && d.Year < 2110 || d.Year > 9990 {
				checkNth(t, d.Year, d.Month, w, lists[w])
			}
			lists[w] = lists[w][:0]
		}
	}
}

func TestP27MonthsUndone(t *testing.T) {
	undone := 0
	for _, year := range []int{1, 2, 1899, 1900, 1999, 2000, 2023, 2024, 5000, 9998, 9999} {
		for month := 1; month <= 12; month++ {
			for day := 1; day <= 28; day++ {
				for _, n := range []int{1, -1, 2, 11, -11, 12, -12, 13, 25, -37, 400 * 12, -400 * 12, 2500 * 12, -119987, 119987} {
					d := date(year, month, day)
					x, e := AddMonths(d, n)
					if e != api.OK {
						continue
					}
					if back, e := AddMonths(x, -n); back != d || e != api.OK {
						t.Fatalf("AddMonths(AddMonths(%v, %d), %d) = %v, %d", d, n, -n, back, e)
					}
					undone++
				}
			}
		}
	}
	if undone == 0 {
		t.Error("no months were added")
	}
}
