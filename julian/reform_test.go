package julian

import (
	"math"
	"testing"

	"civiltime/api"
	"civiltime/civil"
)

// firstDays are the first Gregorian days of reforms: at the ends of the line, where the Julian calendar is ahead, level, and behind, at leap days, and as they were in history.
func firstDays(t *testing.T) []int {
	l := []int{api.MinDay, api.MinDay + 1, api.MinDay + 2, api.MinDay + 3, 0, api.MaxDay - 74, api.MaxDay - 73, api.MaxDay - 1, api.MaxDay}
	for _, d := range []api.Date{
		date(4, 2, 29), date(50, 7, 1), date(100, 2, 28), date(100, 3, 1), date(150, 1, 1), date(200, 2, 28), date(200, 3, 1), date(250, 6, 15), date(300, 2, 28), date(300, 3, 1), date(300, 3, 2),
		date(1582, 10, 15), date(1700, 3, 1), date(1752, 9, 14), date(1900, 3, 13), date(1900, 3, 14), date(1923, 3, 1),
	} {
		day, e := civil.Day(d)
		if e != api.OK {
			t.Fatalf("civil.Day(%v): %d", d, e)
		}
		l = append(l, day)
	}
	return l
}

// badFirst are the first days of reforms that are not valid.
var badFirst = []int{math.MinInt, math.MinInt + 1, api.MinTime, api.MinDay - 2, api.MinDay - 1, api.MaxDay + 1, api.MaxDay + 73, api.MaxTime, math.MaxInt - 1, math.MaxInt}

func dayOf(t *testing.T, year, month, day int) int {
	t.Helper()
	n, e := civil.Day(date(year, month, day))
	if e != api.OK {
		t.Fatalf("civil.Day(%v): %d", date(year, month, day), e)
	}
	return n
}

func TestP54Switch(t *testing.T) {
	for _, first := range append(strange, badFirst...) {
		if r := Switch(first); r != (api.Reform{First: first}) {
			t.Errorf("Switch(%d) = %v", first, r)
		}
	}
}

func TestP54Examples(t *testing.T) {
	rome := dayOf(t, 1582, 10, 15)
	britain := dayOf(t, 1752, 9, 14)
	for _, c := range []struct {
		first, day int
		d          api.Date
	}{
		{rome, rome - 1, date(1582, 10, 4)}, {rome, rome, date(1582, 10, 15)}, {rome, rome + 1, date(1582, 10, 16)}, {rome, 0, date(1970, 1, 1)}, {rome, api.MinDay, date(1, 1, 3)}, {rome, api.MaxDay - 1, date(9999, 12, 31)},
		{britain, britain - 1, date(1752, 9, 2)}, {britain, britain, date(1752, 9, 14)}, {britain, rome, date(1582, 10, 5)},
		{api.MinDay, api.MinDay, date(1, 1, 1)}, {api.MinDay + 1, api.MinDay, date(1, 1, 3)}, {api.MinDay + 1, api.MinDay + 1, date(1, 1, 2)},
		{api.MaxDay, api.MaxDay - 1, date(9999, 10, 19)}, {api.MaxDay - 1, api.MaxDay - 1, date(9999, 12, 31)}, {api.MaxDay - 1, api.MaxDay - 2, date(9999, 10, 18)},
	} {
		if d, e := Mixed(Switch(c.first), c.day); d != c.d || e != api.OK {
			t.Errorf("Mixed(%d, %d) = %v, %d; want %v", c.first, c.day, d, e, c.d)
		}
	}
}

func TestP54Errors(t *testing.T) {
	out := []int{math.MinInt, math.MinInt + 1, api.MinTime, api.MinDay - 2, api.MinDay - 1, api.MaxDay, api.MaxDay + 1, api.MaxTime, math.MaxInt - 1, math.MaxInt}
	for _, first := range firstDays(t) {
		for _, day := range out {
			if d, e := Mixed(Switch(first), day); d != (api.Date{}) || e != api.ErrRange {
				t.Errorf("Mixed(%d, %d) = %v, %d", first, day, d, e)
			}
		}
	}
	for _, first := range badFirst {
		for _, day := range append(out, api.MinDay, 0, api.MaxDay-1) {
			if d, e := Mixed(Switch(first), day); d != (api.Date{}) || e != api.ErrArg {
				t.Errorf("Mixed(%d, %d) = %v, %d", first, day, d, e)
			}
		}
	}
}

// TestP54AllDays compares the mixed dates of all days with dates that are counted one by one.
func TestP54AllDays(t *testing.T) {
	for _, first := range firstDays(t) {
		r := Switch(first)
		for day, d := range mixed(first) {
			if x, e := Mixed(r, day); x != d || e != api.OK {
				t.Fatalf("Mixed(%d, %d) = %v, %d; want %v", first, day, x, e, d)
			}
		}
	}
}

// mixed goes through all days with their mixed dates.
func mixed(first int) func(yield func(int, api.Date) bool) {
	return func(yield func(int, api.Date) bool) {
		for day, d := range julianOnes.within() {
			if day >= first {
				break
			}
			if !yield(day, d) {
				return
			}
		}
		for day, d := range gregorian.within() {
			if day >= first && !yield(day, d) {
				return
			}
		}
	}
}

func TestP55Examples(t *testing.T) {
	rome := dayOf(t, 1582, 10, 15)
	for _, c := range []struct {
		first int
		d     api.Date
		day   int
		e     api.Errno
	}{
		{rome, date(1582, 10, 4), rome - 1, api.OK}, {rome, date(1582, 10, 15), rome, api.OK}, {rome, date(1970, 1, 1), 0, api.OK}, {rome, date(1500, 2, 29), dayOf(t, 1500, 3, 10), api.OK},
		{rome, date(1582, 10, 5), 0, api.ErrNone}, {rome, date(1582, 10, 10), 0, api.ErrNone}, {rome, date(1582, 10, 14), 0, api.ErrNone}, {rome, date(1700, 2, 29), 0, api.ErrNone}, {rome, date(1900, 2, 29), 0, api.ErrNone},
		{rome, date(1, 1, 1), 0, api.ErrNone}, {rome, date(1, 1, 2), 0, api.ErrNone}, {rome, date(1, 1, 3), api.MinDay, api.OK}, {rome, date(9999, 12, 31), api.MaxDay - 1, api.OK},
		// Nothing is Julian, or everything.
		{api.MinDay, date(1, 1, 1), api.MinDay, api.OK}, {api.MinDay, date(1, 1, 3), api.MinDay + 2, api.OK}, {api.MinDay, date(100, 2, 29), 0, api.ErrNone},
		{api.MaxDay, date(1, 1, 1), 0, api.ErrNone}, {api.MaxDay, date(9999, 10, 19), api.MaxDay - 1, api.OK}, {api.MaxDay, date(9999, 10, 20), 0, api.ErrNone}, {api.MaxDay, date(9999, 12, 31), 0, api.ErrNone},
		{api.MaxDay - 1, date(9999, 10, 19), 0, api.ErrNone}, {api.MaxDay - 1, date(9999, 12, 31), api.MaxDay - 1, api.OK},
		// These dates come twice, except the last one.
		{api.MinDay + 1, date(1, 1, 3), api.MinDay, api.OK}, {api.MinDay + 2, date(1, 1, 3), api.MinDay, api.OK}, {api.MinDay + 2, date(1, 1, 4), api.MinDay + 1, api.OK},
		{dayOf(t, 50, 7, 1), date(50, 7, 1), dayOf(t, 50, 6, 29), api.OK}, {dayOf(t, 50, 7, 1), date(50, 7, 2), dayOf(t, 50, 6, 30), api.OK}, {dayOf(t, 50, 7, 1), date(50, 7, 3), dayOf(t, 50, 7, 3), api.OK},
	} {
		if day, e := MixedDay(Switch(c.first), c.d); day != c.day || e != c.e {
			t.Errorf("MixedDay(%d, %v) = %d, %d; want %d, %d", c.first, c.d, day, e, c.day, c.e)
		}
	}
}

func TestP55Errors(t *testing.T) {
	for _, first := range firstDays(t) {
		for _, d := range invalid {
			if day, e := MixedDay(Switch(first), d); day != 0 || e != api.ErrArg {
				t.Errorf("MixedDay(%d, %v) = %d, %d", first, d, day, e)
			}
		}
	}
	for _, first := range badFirst {
		for _, d := range append(invalid, date(1, 1, 1), date(1, 1, 3), date(1582, 10, 10), date(1970, 1, 1), date(1900, 2, 29), date(9999, 12, 31)) {
			if day, e := MixedDay(Switch(first), d); day != 0 || e != api.ErrArg {
				t.Errorf("MixedDay(%d, %v) = %d, %d", first, d, day, e)
			}
		}
	}
}

// TestP55AllDates looks for the least day of each date among all days.
func TestP55AllDates(t *testing.T) {
	for _, first := range firstDays(t) {
		r := Switch(first)
		least := tableOf()
		for day, d := range mixed(first) {
			if least[place(d)] == none {
				least[place(d)] = day
			}
		}
		for _, d := range julianOnes.all() {
			want, wantE := least[place(d)], api.OK
			if want == none {
				want, wantE = 0, api.ErrNone
			}
			if day, e := MixedDay(r, d); day != want || e != wantE {
				t.Fatalf("MixedDay(%d, %v) = %d, %d; want %d, %d", first, d, day, e, want, wantE)
			}
		}
	}
}

// TestP56Mixed goes from days to mixed dates and back, where no date comes twice.
func TestP56Mixed(t *testing.T) {
	for _, first := range []int{dayOf(t, 300, 3, 1), dayOf(t, 1582, 10, 15), 0, api.MaxDay} {
		r := Switch(first)
		for day := api.MinDay; day < api.MaxDay; day++ {
			d, e := Mixed(r, day)
			if e != api.OK {
				t.Fatalf("Mixed(%d, %d): %d", first, day, e)
			}
			if x, e := MixedDay(r, d); x != day || e != api.OK {
				t.Fatalf("MixedDay(%d, %v) = %d, %d; want %d", first, d, x, e, day)
			}
		}
	}
}
