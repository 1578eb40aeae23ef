package hebrew

import (
	"testing"

	"civiltime/api"
	"civiltime/civil"
)

func TestP72Examples(t *testing.T) {
	for _, c := range []struct {
		year  int
		first api.Date
	}{
		{5661, date(1900, 9, 24)}, {5709, date(1948, 10, 4)}, {5730, date(1969, 9, 13)}, {5760, date(1999, 9, 11)}, {5774, date(2013, 9, 5)}, {5782, date(2021, 9, 7)}, {5783, date(2022, 9, 26)}, {5784, date(2023, 9, 16)}, {5785, date(2024, 10, 3)}, {5786, date(2025, 9, 23)}, {5787, date(2026, 9, 12)},
	} {
		want, _ := civil.Day(c.first)
		if day, e := New(c.year); day != want || e != api.OK {
			t.Errorf("New(%d) = %d, %d; want %d", c.year, day, e, want)
		}
	}
	if day, e := New(5786); day != 20354 || e != api.OK {
		t.Errorf("New(5786) = %d, %d", day, e)
	}
	// the first years: 12 months are 354 days and less than 9 hours, so that the conjunction of the second one is on a Friday, and it begins on the next day
	for _, c := range []struct{ year, elapsed, day int }{{1, 0, -2092590}, {2, 355, -2092590 + 355}} {
		if n, e := Elapsed(c.year); n != c.elapsed || e != api.OK {
			t.Errorf("Elapsed(%d) = %d, %d", c.year, n, e)
		}
		if day, e := New(c.year); day != c.day || e != api.OK {
			t.Errorf("New(%d) = %d, %d", c.year, day, e)
		}
	}
}

// TestP72AllYears has the four traditional postponements, of which Elapsed has the first two.
func TestP72AllYears(t *testing.T) {
	want := traditional()
	put := map[int]int{}
	for year := 1; year <= 20000; year++ {
		days, e := Elapsed(year)
		if days != want.elapsed[year] || e != api.OK {
			t.Fatalf("Elapsed(%d) = %d, %d; want %d", year, days, e, want.elapsed[year])
		}
		day, e := New(year)
		if day != want.years[year] || e != api.OK {
			t.Fatalf("New(%d) = %d, %d; want %d", year, day, e, want.years[year])
		}
		put[day-days-Epoch]++
	}
	if len(put) != 3 || put[0] == 0 || put[1] == 0 || put[2] == 0 {
		t.Errorf("years are put off by %v days", put)
	}
}

// TestP72Bounds has years that begin before MinDay and behind MaxDay.
func TestP72Bounds(t *testing.T) {
	for _, year := range []int{1, 3760, 3761, 3762, 13759, 13760, 13761, 20000} {
		if day, e := New(year); day != traditional().years[year] || e != api.OK {
			t.Errorf("New(%d) = %d, %d", year, day, e)
		}
	}
	if first, _ := New(1); first >= api.MinDay {
		t.Error(first)
	}
	if last, _ := New(20000); last <= api.MaxDay {
		t.Error(last)
	}
}

func TestP72Errors(t *testing.T) {
	for _, year := range badYears {
		if n, e := Elapsed(year); n != 0 || e != api.ErrRange {
			t.Errorf("Elapsed(%d) = %d, %d", year, n, e)
		}
		if day, e := New(year); day != 0 || e != api.ErrRange {
			t.Errorf("New(%d) = %d, %d", year, day, e)
		}
	}
}

// TestP74Examples has the first conjunctions, and that of 5786, which is known to be on Monday, September 22, 2025, 10 minutes and 7 of their 18 parts after noon.
func TestP74Examples(t *testing.T) {
	for _, c := range []struct{ year, month, day, part int }{
		{1, 7, -2092591, 25044}, {1, 8, -2092590 + 29, 12877}, {1, 9, -2092590 + 59, 710}, {1, 12, -2092590 + 147, 16049},
		{5786, 7, 20353, 12*1080 + 10*18 + 7},
	} {
		if day, part, e := Molad(c.year, c.month); day != c.day || part != c.part || e != api.OK {
			t.Errorf("Molad(%d, %d) = %d, %d, %d", c.year, c.month, day, part, e)
		}
	}
}

// TestP74AllMonths goes from month to month.
func TestP74AllMonths(t *testing.T) {
	parts := -2092590*25920 - 876
	for year := 1; year <= 20000; year++ {
		for _, month := range monthsOf(year) {
			day, part, e := Molad(year, month)
			if day*25920+part != parts || part < 0 || part >= 25920 || e != api.OK {
				t.Fatalf("Molad(%d, %d) = %d, %d, %d; want %d parts", year, month, day, part, e, parts)
			}
			parts += 765433
		}
	}
}

func TestP74Errors(t *testing.T) {
	refused := func(year, month int) {
		t.Helper()
		if day, part, e := Molad(year, month); day != 0 || part != 0 || e != api.ErrRange {
			t.Errorf("Molad(%d, %d) = %d, %d, %d", year, month, day, part, e)
		}
	}
	for year := -30; year <= 20030; year++ {
		for month := -3; month <= 16; month++ {
			if length(year, month) == 0 {
				refused(year, month)
			}
		}
	}
	for _, year := range append(badYears, strange...) {
		for _, month := range strange {
			if length(year, month) == 0 {
				refused(year, month)
			}
		}
	}
	refused(5786, 13)
	refused(5784, 14)
	refused(5786, 0)
}

func TestP76NewYears(t *testing.T) {
	behind := map[int]int{}
	for year := 1; year <= 20000; year++ {
		day, _ := New(year)
		switch weekday(day) {
		case api.Sunday, api.Wednesday, api.Friday:
			t.Errorf("New(%d) = %d, on the weekday %d", year, day, weekday(day))
		}
		conjunction, _, _ := Molad(year, 7)
		behind[day-conjunction]++
		if next, e := New(year + 1); year < 20000 && (next-day != YearLength(year) || e != api.OK) {
			t.Errorf("YearLength(%d) = %d, from %d to %d", year, YearLength(year), day, next)
		}
	}
	if len(behind) != 3 || behind[0] == 0 || behind[1] == 0 || behind[2] == 0 {
		t.Errorf("new years are behind conjunctions by %v days", behind)
	}
}

func TestP76Months(t *testing.T) {
	before := 0
	for year := 1; year <= 20000; year++ {
		for _, month := range monthsOf(year) {
			day, part, _ := Molad(year, month)
			if now := day*25920 + part; now-before != 765433 && before != 0 {
				t.Fatalf("Molad(%d, %d) is %d parts behind the one before", year, month, now-before)
			}
			before = day*25920 + part
		}
	}
}
