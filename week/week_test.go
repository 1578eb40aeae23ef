package week

import (
	"iter"
	"math"
	"testing"
	"time"

	"civiltime/api"
	"civiltime/civil"
)

var (
	american = api.WeekRule{First: api.Sunday, Minimal: 1}
	whole    = api.WeekRule{First: api.Monday, Minimal: 7} // the first week lies in the year as a whole
)

// invalid are rules that are not valid, each by one number at least.
var invalid = []api.WeekRule{
	{}, {First: 1}, {Minimal: 1}, {First: 0, Minimal: 4}, {First: 8, Minimal: 1}, {First: -1, Minimal: 1}, {First: 1, Minimal: 0}, {First: 1, Minimal: 8}, {First: 7, Minimal: -1},
	{First: math.MinInt, Minimal: 4}, {First: math.MaxInt, Minimal: 4}, {First: 1, Minimal: math.MinInt}, {First: 1, Minimal: math.MaxInt},
}

func date(year, week, weekday int) api.WeekDate {
	return api.WeekDate{Year: year, Week: week, Weekday: weekday}
}

// rules goes through all valid rules.
func rules() iter.Seq[api.WeekRule] {
	return func(yield func(api.WeekRule) bool) {
		for first := 1; first <= 7; first++ {
			for minimal := 1; minimal <= 7; minimal++ {
				if !yield(api.WeekRule{First: first, Minimal: minimal}) {
					return
				}
			}
		}
	}
}

// yearDays is the number of days of a year.
func yearDays(year int) int {
	if year%400 == 0 || year%4 == 0 && year%100 != 0 {
		return 366
	}
	return 365
}

// newYears returns the days of January 1 by year, from the year 1 to 10001, the end of the year MaxYear + 1.
func newYears() []int {
	l := []int{0, -719162}
	for year := 1; year <= 10000; year++ {
		l = append(l, l[year]+yearDays(year))
	}
	return l
}

// weekdayOf counts weekdays from 0001-01-01, a Monday, and a little before it.
func weekdayOf(day int) int { return (day+719162+700)%7 + 1 }

// firstWeek looks for the first week of a year by the definition of the chapter: it counts the days that each week has in the year.
func firstWeek(r api.WeekRule, years []int, year int) int {
	for day := years[year] - 6; ; day++ {
		if weekdayOf(day) != r.First {
			continue
		}
		n := 0
		for i := range 7 {
			if day+i >= years[year] && day+i < years[year+1] {
				n++
			}
		}
		if n >= r.Minimal {
			return day
		}
	}
}

// firstWeeks returns the first days of all week-years, and of the year after the last one.
func firstWeeks(r api.WeekRule, years []int) []int {
	l := []int{0}
	for year := 1; year <= 10000; year++ {
		l = append(l, firstWeek(r, years, year))
	}
	return l
}

func TestP31ISO(t *testing.T) {
	if r := ISO(); r != (api.WeekRule{First: 1, Minimal: 4}) || !Valid(r) {
		t.Errorf("ISO() = %v", r)
	}
}

func TestP31Valid(t *testing.T) {
	for _, r := range invalid {
		if Valid(r) {
			t.Errorf("Valid(%v)", r)
		}
	}
	for first := -20; first <= 20; first++ {
		for minimal := -20; minimal <= 20; minimal++ {
			r := api.WeekRule{First: first, Minimal: minimal}
			if want := first >= 1 && first <= 7 && minimal >= 1 && minimal <= 7; Valid(r) != want {
				t.Errorf("Valid(%v) = %t", r, !want)
			}
		}
	}
}

func TestP32Examples(t *testing.T) {
	for _, c := range []struct {
		r                  api.WeekRule
		year, start, weeks int
	}{
		{ISO(), 2026, 20451, 53}, {american, 2026, 20450, 52}, {whole, 2026, 20458, 52}, {ISO(), 2025, 20087, 52}, {ISO(), 2020, 18260, 53}, {ISO(), 1970, -3, 53},
		// The year 1 begins on a Monday.
		{ISO(), 1, api.MinDay, 52}, {american, 1, api.MinDay - 1, 52}, {api.WeekRule{First: api.Tuesday, Minimal: 1}, 1, api.MinDay - 6, 53},
		{api.WeekRule{First: api.Tuesday, Minimal: 2}, 1, api.MinDay + 1, 52}, {api.WeekRule{First: api.Sunday, Minimal: 6}, 1, api.MinDay - 1, 53}, {api.WeekRule{First: api.Sunday, Minimal: 7}, 1, api.MinDay + 6, 52},
		// The year 9999 begins and ends on a Friday.
		{ISO(), 9999, api.MaxDay - 362, 52}, {american, 9999, api.MaxDay - 370, 52}, {api.WeekRule{First: api.Saturday, Minimal: 1}, 9999, api.MaxDay - 371, 53},
	} {
		if day, e := Start(c.r, c.year); day != c.start || e != api.OK {
			t.Errorf("Start(%v, %d) = %d, %d", c.r, c.year, day, e)
		}
		if n, e := Weeks(c.r, c.year); n != c.weeks || e != api.OK {
			t.Errorf("Weeks(%v, %d) = %d, %d", c.r, c.year, n, e)
		}
	}
}

func TestP32Errors(t *testing.T) {
	years := []int{math.MinInt, -2026, -1, 0, 10000, 10001, 1 << 32, math.MaxInt - 1, math.MaxInt}
	check := func(r api.WeekRule, year int, e api.Errno) {
		t.Helper()
		if day, got := Start(r, year); day != 0 || got != e {
			t.Errorf("Start(%v, %d) = %d, %d", r, year, day, got)
		}
		if n, got := Weeks(r, year); n != 0 || got != e {
			t.Errorf("Weeks(%v, %d) = %d, %d", r, year, n, got)
		}
	}
	for r := range rules() {
		for _, year := range years {
			check(r, year, api.ErrRange)
		}
	}
	for _, r := range invalid {
		for _, year := range append(years, 1, 2026, 9999) {
			check(r, year, api.ErrArg)
		}
	}
}

func TestP32ByDefinition(t *testing.T) {
	years := newYears()
	for r := range rules() {
		starts := firstWeeks(r, years)
		for year := 1; year <= 9999; year++ {
			if day, e := Start(r, year); day != starts[year] || e != api.OK {
				t.Fatalf("Start(%v, %d) = %d, %d; want %d", r, year, day, e, starts[year])
			}
			want := 0
			for day := starts[year]; day < starts[year+1]; day += 7 {
				want++
			}
			if n, e := Weeks(r, year); n != want || e != api.OK {
				t.Fatalf("Weeks(%v, %d) = %d, %d; want %d", r, year, n, e, want)
			}
		}
	}
}

// examples are days with their dates of weeks.
var examples = []struct {
	r   api.WeekRule
	day int
	d   api.WeekDate
}{
	{ISO(), 20454, date(2026, 1, 4)}, {ISO(), 20451, date(2026, 1, 1)}, {ISO(), 20450, date(2025, 52, 7)}, {ISO(), 20512, date(2026, 9, 6)}, {ISO(), 20819, date(2026, 53, 5)}, {ISO(), 0, date(1970, 1, 4)},
	{american, 20454, date(2026, 1, 4)}, {american, 20450, date(2026, 1, 7)}, {american, 20449, date(2025, 52, 6)}, {american, 20456, date(2026, 1, 6)}, {american, 20457, date(2026, 2, 7)},
	{whole, 20454, date(2025, 52, 4)}, {whole, 20458, date(2026, 1, 1)},
	{ISO(), api.MinDay, date(1, 1, 1)}, {american, api.MinDay, date(1, 1, 1)}, {american, api.MinDay + 6, date(1, 2, 7)}, {ISO(), api.MaxDay - 1, date(9999, 52, 5)},
	{api.WeekRule{First: api.Tuesday, Minimal: 1}, api.MinDay, date(1, 1, 1)}, {api.WeekRule{First: api.Saturday, Minimal: 1}, api.MaxDay - 1, date(9999, 53, 5)},
}

func TestP33Examples(t *testing.T) {
	for _, c := range examples {
		if d, e := Of(c.r, c.day); d != c.d || e != api.OK {
			t.Errorf("Of(%v, %d) = %v, %d", c.r, c.day, d, e)
		}
	}
}

func TestP33Errors(t *testing.T) {
	out := []int{math.MinInt, math.MinInt + 1, api.MinTime, api.MinDay - 7, api.MinDay - 1, api.MaxDay, api.MaxDay + 1, api.MaxDay + 6, api.MaxTime, math.MaxInt - 1, math.MaxInt}
	for r := range rules() {
		for _, day := range out {
			if d, e := Of(r, day); d != (api.WeekDate{}) || e != api.ErrRange {
				t.Errorf("Of(%v, %d) = %v, %d", r, day, d, e)
			}
		}
	}
	for _, r := range invalid {
		for _, day := range append(out, api.MinDay, 0, 20454, api.MaxDay-1) {
			if d, e := Of(r, day); d != (api.WeekDate{}) || e != api.ErrArg {
				t.Errorf("Of(%v, %d) = %v, %d", r, day, d, e)
			}
		}
	}
	// These days lie before the first week of the first week-year, or in the first week behind the last one.
	for _, c := range []struct {
		r   api.WeekRule
		day int
	}{
		{api.WeekRule{First: api.Sunday, Minimal: 7}, api.MinDay}, {api.WeekRule{First: api.Sunday, Minimal: 7}, api.MinDay + 5}, {api.WeekRule{First: api.Tuesday, Minimal: 2}, api.MinDay},
		{american, api.MaxDay - 1}, {american, api.MaxDay - 6}, {api.WeekRule{First: api.Monday, Minimal: 2}, api.MaxDay - 1}, {api.WeekRule{First: api.Friday, Minimal: 6}, api.MaxDay - 1},
	} {
		if d, e := Of(c.r, c.day); d != (api.WeekDate{}) || e != api.ErrRange {
			t.Errorf("Of(%v, %d) = %v, %d", c.r, c.day, d, e)
		}
	}
}

// checkDate compares Of and Day with the date that a day must have; the zero date stands for none. It is called too often to be marked as a helper, which takes longer than the rest of it.
func checkDate(t *testing.T, r api.WeekRule, day int, want api.WeekDate) {
	wantE := api.OK
	if want == (api.WeekDate{}) {
		wantE = api.ErrRange
	}
	if d, e := Of(r, day); d != want || e != wantE {
		t.Fatalf("Of(%v, %d) = %v, %d; want %v", r, day, d, e, want)
	}
	if wantE != api.OK {
		return
	}
	if x, e := Day(r, want); x != day || e != api.OK {
		t.Fatalf("Day(%v, %v) = %d, %d; want %d", r, want, x, e, day)
	}
}

// TestP33AllDays counts weeks and weekdays from the starts of the week-years on, for some rules on all days.
func TestP33AllDays(t *testing.T) {
	years := newYears()
	for _, r := range []api.WeekRule{ISO(), american, whole, {First: api.Saturday, Minimal: 3}} {
		starts := firstWeeks(r, years)
		year := 0
		var d api.WeekDate
		for day := starts[1] - 7; day < api.MaxDay; day++ {
			switch {
			case year <= 9999 && day == starts[year+1]:
				year++
				d = date(year, 1, r.First)
			case year > 0:
				d.Weekday = d.Weekday%7 + 1
				if d.Weekday == r.First {
					d.Week++
				}
			}
			switch {
			case day < api.MinDay:
			case year > 9999:
				checkDate(t, r, day, api.WeekDate{})
			default:
				checkDate(t, r, day, d)
			}
		}
	}
}

// TestP33AroundNewYear looks at the days around the starts of all calendar years, for all rules.
func TestP33AroundNewYear(t *testing.T) {
	years := newYears()
	for r := range rules() {
		starts := firstWeeks(r, years)
		for year := 1; year <= 10000; year++ {
			for day := max(years[year]-8, api.MinDay); day < min(years[year]+8, api.MaxDay); day++ {
				weekYear := year
				if day < starts[year] {
					weekYear--
				}
				var want api.WeekDate
				if weekYear >= 1 && weekYear <= 9999 {
					want = date(weekYear, (day-starts[weekYear])/7+1, weekdayOf(day))
				}
				checkDate(t, r, day, want)
			}
		}
	}
}

func TestP33ISOByLibrary(t *testing.T) {
	for day := api.MinDay; day < api.MaxDay; day++ {
		year, week := time.Unix(int64(day)*api.DaySeconds, 0).UTC().ISOWeek()
		if d, e := Of(ISO(), day); d.Year != year || d.Week != week || d.Weekday != weekdayOf(day) || e != api.OK {
			t.Fatalf("Of(ISO(), %d) = %v, %d; want the week %d of %d", day, d, e, week, year)
		}
	}
}

func TestP34Examples(t *testing.T) {
	for _, c := range examples {
		if day, e := Day(c.r, c.d); day != c.day || e != api.OK {
			t.Errorf("Day(%v, %v) = %d, %d", c.r, c.d, day, e)
		}
	}
}

func TestP34Errors(t *testing.T) {
	out := []api.WeekDate{
		{}, date(0, 1, 1), date(-1, 1, 1), date(10000, 1, 1), date(math.MinInt, 1, 1), date(math.MaxInt, 1, 1),
		date(2025, 0, 1), date(2025, -1, 1), date(2025, 54, 1), date(2025, math.MinInt, 1), date(2025, math.MaxInt, 1), date(2025, 1<<62, 1),
		date(2025, 1, 0), date(2025, 1, -1), date(2025, 1, 8), date(2025, 1, math.MinInt), date(2025, 1, math.MaxInt),
	}
	check := func(r api.WeekRule, d api.WeekDate, e api.Errno) {
		t.Helper()
		if day, got := Day(r, d); day != 0 || got != e {
			t.Errorf("Day(%v, %v) = %d, %d", r, d, day, got)
		}
	}
	for r := range rules() {
		for _, d := range out {
			check(r, d, api.ErrRange)
		}
	}
	for _, r := range invalid {
		for _, d := range append(out, date(2025, 1, 1), date(1, 1, 1)) {
			check(r, d, api.ErrArg)
		}
	}
	check(ISO(), date(2025, 53, 1), api.ErrRange)
	// Seven times the number before this one is 1 in the arithmetic of 64 bits.
	check(ISO(), date(2025, 7905747460161236408, 1), api.ErrRange)
	// These dates are valid, but their days are before MinDay, or behind MaxDay - 1.
	check(american, date(1, 1, 7), api.ErrRange)
	check(api.WeekRule{First: api.Tuesday, Minimal: 1}, date(1, 1, 2), api.ErrRange)
	check(api.WeekRule{First: api.Tuesday, Minimal: 1}, date(1, 1, 7), api.ErrRange)
	check(ISO(), date(9999, 52, 6), api.ErrRange)
	check(ISO(), date(9999, 52, 7), api.ErrRange)
}

// TestP34AllDates gives Day all dates of chosen years, and those beyond their last weeks.
func TestP34AllDates(t *testing.T) {
	years := newYears()
	for r := range rules() {
		starts := firstWeeks(r, years)
		for _, year := range []int{1, 2, 4, 1899, 1900, 1999, 2000, 2024, 2025, 2026, 2027, 9998, 9999} {
			for week := -2; week <= 56; week++ {
				for weekday := -2; weekday <= 10; weekday++ {
					day := starts[year] + 7*(week-1)
					for i := 0; i < 7 && weekdayOf(day) != weekday; i++ {
						day++
					}
					wantE := api.OK
					if week < 1 || day >= starts[year+1] || weekdayOf(day) != weekday || day < api.MinDay || day >= api.MaxDay {
						day, wantE = 0, api.ErrRange
					}
					if x, e := Day(r, date(year, week, weekday)); x != day || e != wantE {
						t.Fatalf("Day(%v, %v) = %d, %d; want %d, %d", r, date(year, week, weekday), x, e, day, wantE)
					}
				}
			}
		}
	}
}

func TestP37OneToOne(t *testing.T) {
	for r := range rules() {
		seen := map[api.WeekDate]bool{}
		for day := 10957; day < 10957+30*366; day++ {
			d, e := Of(r, day)
			if e != api.OK || seen[d] {
				t.Fatalf("Of(%v, %d) = %v, %d, or again", r, day, d, e)
			}
			seen[d] = true
			if x, e := Day(r, d); x != day || e != api.OK {
				t.Fatalf("Day(%v, Of(%d)) = %d, %d", r, day, x, e)
			}
		}
	}
}

func TestP37NextDay(t *testing.T) {
	for r := range rules() {
		for day := 10957; day < 10957+30*366; day++ {
			d, _ := Of(r, day)
			next, e := Of(r, day+1)
			if e != api.OK || next.Weekday != d.Weekday%7+1 || next.Weekday != civil.Weekday(day+1) {
				t.Fatalf("Of(%v, %d) = %v, %d, after %v", r, day+1, next, e, d)
			}
			want := date(d.Year, d.Week, next.Weekday)
			if weeks, _ := Weeks(r, d.Year); next.Weekday == r.First && d.Week == weeks {
				want.Year, want.Week = d.Year+1, 1
			} else if next.Weekday == r.First {
				want.Week++
			}
			if next != want {
				t.Fatalf("Of(%v, %d) = %v, after %v", r, day+1, next, d)
			}
		}
	}
}

func TestP37Weeks(t *testing.T) {
	for r := range rules() {
		seen := map[int]int{}
		for year := 1; year <= 9999; year++ {
			n, _ := Weeks(r, year)
			seen[n]++
			day, _ := Start(r, year)
			if next, e := Start(r, year+1); e == api.OK && next != day+7*n {
				t.Fatalf("Start(%v, %d) = %d, %d weeks after %d", r, year+1, next, n, day)
			}
		}
		if seen[52] == 0 || seen[53] == 0 || seen[52]+seen[53] != 9999 {
			t.Errorf("numbers of weeks with %v: %v", r, seen)
		}
	}
}

// TestP1 calls every function with all numbers that may be dangerous: none of them panics, and with an error the other results are zero.
func TestP1(t *testing.T) {
	strange := []int{
		math.MinInt, math.MinInt + 1, -1 << 62, api.MinDay - 1, api.MinDay, -8, -7, -4, -1, 0, 1, 2, 4, 7, 8, 52, 53, 54, 55, 365, 366, 367,
		2024, 9999, 10000, api.MaxDay - 1, api.MaxDay, 1 << 32, 1 << 62, math.MaxInt - 1, math.MaxInt,
	}
	check := func(e api.Errno, zero bool) {
		t.Helper()
		if e != api.OK && !zero {
			t.Errorf("a result beside the error %d", e)
		}
	}
	checkRule := func(r api.WeekRule) {
		for _, a := range strange {
			d, e := Of(r, a)
			check(e, d == api.WeekDate{})
			n, e := Weeks(r, a)
			check(e, n == 0)
			n, e = Start(r, a)
			check(e, n == 0)
			for _, b := range strange {
				for _, c := range []int{math.MinInt, 0, 1, 7, 8, math.MaxInt} {
					n, e = Day(r, date(a, b, c))
					check(e, n == 0)
				}
			}
		}
	}
	for r := range rules() {
		checkRule(r)
	}
	for _, r := range invalid {
		checkRule(r)
	}
	for _, a := range strange {
		year, n, e := Ordinal(a)
		check(e, year == 0 && n == 0)
		for _, b := range strange {
			n, e = FromOrdinal(a, b)
			check(e, n == 0)
			for _, c := range strange {
				_ = Text(date(a, b, c))
			}
		}
	}
}
