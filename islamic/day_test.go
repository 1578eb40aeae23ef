package islamic

import (
	"math"
	"testing"

	"civiltime/api"
	"civiltime/civil"
)

func TestP62Examples(t *testing.T) {
	for _, c := range []struct{ kind, year, day int }{
		{1, 1, -492148}, {2, 1, -492148}, {3, 1, -492148}, {4, 1, -492148}, {1, 2, -492148 + 354}, {1, 3, -492148 + 709}, {1, 31, -492148 + 10631}, {4, 30, -492148 + 10631 - 355}, {3, 30, -492148 + 10631 - 354},
		{1, 16, -492148 + 15*354 + 6}, {2, 16, -492148 + 15*354 + 5}, {1, 1445, 19557}, {1, 1446, 19912}, {1, 9601, 2909772}, {2, 9601, 2909772}, {3, 9601, 2909772}, {4, 9601, 2909772}, {1, 9600, 2909772 - 354}, {4, 9600, 2909772 - 355},
	} {
		if day, e := New(c.kind, c.year); day != c.day || e != api.OK {
			t.Errorf("New(%d, %d) = %d, %d; want %d", c.kind, c.year, day, e, c.day)
		}
	}
	july, _ := civil.Day(date(622, 7, 19))
	if day, e := New(1, 1); day != july || e != api.OK {
		t.Errorf("New(1, 1) = %d, %d; want %d", day, e, july)
	}
}

func TestP62AllYears(t *testing.T) {
	for kind := 1; kind <= 4; kind++ {
		want := firstDay
		for year := 1; year <= 9601; year++ {
			if day, e := New(kind, year); day != want || e != api.OK {
				t.Fatalf("New(%d, %d) = %d, %d; want %d", kind, year, day, e, want)
			}
			want += 354
			if leapYear(kind, year) {
				want++
			}
		}
	}
}

func TestP62Errors(t *testing.T) {
	bad := []int{math.MinInt, math.MinInt + 1, -9600, -29, -1, 0, 9602, 9603, 9631, 10000, 1 << 32, math.MaxInt - 1, math.MaxInt}
	for _, year := range bad {
		for kind := 1; kind <= 4; kind++ {
			if day, e := New(kind, year); day != 0 || e != api.ErrRange {
				t.Errorf("New(%d, %d) = %d, %d", kind, year, day, e)
			}
		}
	}
	for _, kind := range badKinds {
		for _, year := range append(bad, 1, 1445, 9600, 9601) {
			if day, e := New(kind, year); day != 0 || e != api.ErrArg {
				t.Errorf("New(%d, %d) = %d, %d", kind, year, day, e)
			}
		}
	}
}

// TestP63Examples has the day 10957, the 1st of January 2000, as a known one of the second kind.
func TestP63Examples(t *testing.T) {
	for _, c := range []struct {
		kind int
		d    api.Date
		day  int
	}{
		{1, date(1, 1, 1), -492148}, {1, date(1, 1, 30), -492119}, {1, date(1, 2, 1), -492118}, {1, date(1, 2, 29), -492090}, {1, date(1, 3, 1), -492089}, {1, date(1, 12, 29), -491795}, {1, date(2, 12, 30), -491440}, {1, date(3, 1, 1), -491439},
		{1, date(1445, 1, 1), 19557}, {1, date(1445, 9, 1), 19793}, {1, date(1445, 12, 30), 19911}, {1, date(1446, 1, 1), 19912}, {2, date(1420, 9, 24), 10957},
		{1, date(15, 12, 30), -492148 + 15*354 + 5}, {2, date(16, 1, 1), -492148 + 15*354 + 5}, {1, date(9600, 12, 29), 2909771}, {3, date(9600, 12, 29), 2909771}, {4, date(9600, 12, 30), 2909771}, {4, date(9600, 1, 1), 2909772 - 355},
	} {
		if day, e := Day(c.kind, c.d); day != c.day || e != api.OK {
			t.Errorf("Day(%d, %v) = %d, %d; want %d", c.kind, c.d, day, e, c.day)
		}
		if d, e := Date(c.kind, c.day); d != c.d || e != api.OK {
			t.Errorf("Date(%d, %d) = %v, %d; want %v", c.kind, c.day, d, e, c.d)
		}
	}
}

// TestP63AllDates goes through all dates of all kinds, counted one by one.
func TestP63AllDates(t *testing.T) {
	for kind := 1; kind <= 4; kind++ {
		next := firstDay
		for day, want := range all(kind) {
			if n, e := Day(kind, want); n != day || e != api.OK {
				t.Fatalf("Day(%d, %v) = %d, %d; want %d", kind, want, n, e, day)
			}
			if d, e := Date(kind, day); d != want || e != api.OK {
				t.Fatalf("Date(%d, %d) = %v, %d; want %v", kind, day, d, e, want)
			}
			next++
		}
		if next != behindDay {
			t.Errorf("kind %d ends at %d", kind, next)
		}
	}
}

// TestP63InvalidDates has a date behind the end of each month, and others.
func TestP63InvalidDates(t *testing.T) {
	refused := func(kind int, d api.Date) {
		if day, e := Day(kind, d); day != 0 || e != api.ErrArg {
			t.Errorf("Day(%d, %v) = %d, %d", kind, d, day, e)
		}
	}
	for kind := 1; kind <= 4; kind++ {
		for year := 1; year <= 9600; year++ {
			for month := 1; month <= 12; month++ {
				refused(kind, date(year, month, length(kind, year, month)+1))
				refused(kind, date(year, month, 0))
			}
			refused(kind, date(year, 0, 1))
			refused(kind, date(year, 13, 1))
		}
		for _, d := range []api.Date{
			{}, date(0, 1, 1), date(0, 12, 29), date(-1, 1, 1), date(-29, 12, 29), date(9601, 1, 1), date(9602, 1, 1), date(9631, 1, 1), date(math.MinInt, 1, 1), date(math.MaxInt, 1, 1),
			date(1445, -1, 1), date(1445, math.MinInt, 1), date(1445, math.MaxInt, 1), date(1445, 1, -1), date(1445, 1, math.MinInt), date(1445, 1, math.MaxInt), date(1445, 1, 31), date(1445, 2, 31),
		} {
			refused(kind, d)
		}
	}
	refused(1, date(1446, 12, 30))
	for _, kind := range badKinds {
		for _, d := range []api.Date{{}, date(1, 1, 1), date(1445, 9, 1), date(1445, 13, 1), date(9601, 1, 1), date(2, 12, 30)} {
			refused(kind, d)
		}
	}
}

func TestP63Errors(t *testing.T) {
	out := []int{math.MinInt, math.MinInt + 1, api.MinTime, api.MinDay, firstDay - 354, firstDay - 1, behindDay, behindDay + 1, behindDay + 354, api.MaxDay - 1, api.MaxDay, api.MaxTime, math.MaxInt - 1, math.MaxInt}
	for _, day := range out {
		for kind := 1; kind <= 4; kind++ {
			if d, e := Date(kind, day); d != (api.Date{}) || e != api.ErrRange {
				t.Errorf("Date(%d, %d) = %v, %d", kind, day, d, e)
			}
		}
	}
	for _, kind := range badKinds {
		for _, day := range append(out, firstDay, 0, 19557, behindDay-1) {
			if d, e := Date(kind, day); d != (api.Date{}) || e != api.ErrArg {
				t.Errorf("Date(%d, %d) = %v, %d", kind, day, d, e)
			}
		}
	}
}

func TestP66Inverse(t *testing.T) {
	for kind := 1; kind <= 4; kind++ {
		for day := firstDay; day < behindDay; day++ {
			d, e := Date(kind, day)
			if e != api.OK {
				t.Fatalf("Date(%d, %d): %d", kind, day, e)
			}
			if n, e := Day(kind, d); n != day || e != api.OK {
				t.Fatalf("Day(%d, %v) = %d, %d; want %d", kind, d, n, e, day)
			}
		}
	}
}

func TestP66Cycle(t *testing.T) {
	for kind := 1; kind <= 4; kind++ {
		for day := firstDay; day < behindDay-10631; day++ {
			d, _ := Date(kind, day)
			if later, e := Date(kind, day+10631); later != date(d.Year+30, d.Month, d.Day) || e != api.OK {
				t.Fatalf("Date(%d, %d) = %v, %d; a cycle before %v", kind, day+10631, later, e, d)
			}
		}
	}
}

// TestP66Kinds compares the days of each date that both of two kinds have.
func TestP66Kinds(t *testing.T) {
	for a := 1; a <= 4; a++ {
		for b := 1; b < a; b++ {
			apart := 0
			for _, d := range all(a) {
				x, _ := Day(a, d)
				y, e := Day(b, d)
				if e != api.OK {
					continue
				}
				if x-y > 1 || y-x > 1 {
					t.Fatalf("%v is the day %d of the kind %d, and %d of %d", d, x, a, y, b)
				}
				apart += (x - y) * (x - y)
			}
			if apart == 0 {
				t.Errorf("the kinds %d and %d are equal", a, b)
			}
		}
	}
}
