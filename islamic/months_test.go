package islamic

import (
	"math"
	"slices"
	"testing"

	"civiltime/api"
	"civiltime/integer"
)

// divisors are those of 360.
var divisors = []int{1, 2, 3, 4, 5, 6, 8, 9, 10, 12, 15, 18, 20, 24, 30, 36, 40, 45, 60, 72, 90, 120, 180, 360}

func TestP64Examples(t *testing.T) {
	c, e := Months(1, 1441, 1)
	if e != api.OK || c.Origin != 18140 || c.Period != 10631 || len(c.L) != 360 {
		t.Fatal(c, e)
	}
	if want := []api.Span{{From: 0, To: 30}, {From: 30, To: 59}, {From: 59, To: 89}, {From: 89, To: 118}}; !slices.Equal(c.L[:4], want) {
		t.Error(c.L[:4])
	}
	// The month 9 of 1445 begins on the day 19793; the month before has 29 days.
	if s := c.L[4*12+8]; s.From+c.Origin != 19793 || s.To-s.From != 30 || c.L[4*12+7].To != s.From {
		t.Error(s)
	}
	// 1445 is a leap year, so that its last month has 30 days.
	if s := c.L[4*12+11]; s.To-s.From != 30 || s.To+c.Origin != 19912 {
		t.Error(s)
	}
	if c, e = Months(4, 9571, 180); e != api.OK || c.Origin != 2909772-10631 || c.Period != 10631 || !slices.Equal(c.L, []api.Span{{From: 0, To: 15*354 + 5}, {From: 15*354 + 5, To: 10631}}) {
		t.Error(c, e)
	}
	if c, e = Months(1, 1, 180); e != api.OK || c.Origin != -492148 || c.Period != 10631 || !slices.Equal(c.L, []api.Span{{From: 0, To: 15*354 + 6}, {From: 15*354 + 6, To: 10631}}) {
		t.Error(c, e)
	}
	for kind := 1; kind <= 4; kind++ {
		if c, e = Months(kind, 1, 360); e != api.OK || c.Origin != -492148 || c.Period != 10631 || !slices.Equal(c.L, []api.Span{{From: 0, To: 10631}}) {
			t.Error(kind, c, e)
		}
	}
}

// TestP64AllMonths finds the granules by adding up the lengths of months.
func TestP64AllMonths(t *testing.T) {
	for kind := 1; kind <= 4; kind++ {
		origin := firstDay
		for from := 1; from <= 9571; from += 30 {
			for _, n := range divisors {
				c, e := Months(kind, from, n)
				if e != api.OK || c.Origin != origin || c.Period != 10631 || !slices.Equal(c.L, counted(kind, from, n)) {
					t.Fatalf("Months(%d, %d, %d) = %v, %d", kind, from, n, c, e)
				}
			}
			origin += 10631
		}
	}
}

func counted(kind, from, n int) []api.Span {
	var l []api.Span
	end := 0
	for i := range 360 {
		if i%n == 0 {
			l = append(l, api.Span{From: end})
		}
		end += length(kind, from+i/12, i%12+1)
		l[len(l)-1].To = end
	}
	return l
}

// TestP64Granules compares the granules of months and of years, also far from the origin, with dates.
func TestP64Granules(t *testing.T) {
	granule := func(c api.Calendar, k int) api.Span {
		q, r, _ := integer.Div(k, len(c.L))
		move := c.Origin + c.Period*q
		return api.Span{From: c.L[r].From + move, To: c.L[r].To + move}
	}
	for kind := 1; kind <= 4; kind++ {
		months, _ := Months(kind, 1441, 1)
		years, _ := Months(kind, 1441, 12)
		for year := 1; year <= 9600; year++ {
			first, _ := New(kind, year)
			if s := granule(years, year-1441); s.From != first || s.To != first+YearLength(kind, year) {
				t.Fatalf("kind %d: the year %d is %v", kind, year, s)
			}
			for month := 1; month <= 12; month++ {
				day, _ := Day(kind, date(year, month, 1))
				if s := granule(months, 12*(year-1441)+month-1); s.From != day || s.To != day+Length(kind, year, month) {
					t.Fatalf("kind %d: the month %d of %d is %v", kind, month, year, s)
				}
			}
		}
	}
}

func TestP64Errors(t *testing.T) {
	refused := func(kind, from, n int, want api.Errno) {
		t.Helper()
		if c, e := Months(kind, from, n); c.Origin != 0 || c.Period != 0 || len(c.L) != 0 || e != want {
			t.Errorf("Months(%d, %d, %d) = %v, %d", kind, from, n, c, e)
		}
	}
	badFrom := []int{math.MinInt, math.MinInt + 1, -359, -29, -1, 0, 2, 29, 30, 32, 1440, 1442, 1445, 9570, 9572, 9600, 9601, 9602, 9631, 30*(1<<58) + 1, math.MaxInt - 1, math.MaxInt}
	for n := -400; n <= 800; n++ {
		if slices.Contains(divisors, n) {
			continue
		}
		for _, from := range append(badFrom, 1, 31, 1441, 9571) {
			refused(1, from, n, api.ErrArg)
		}
	}
	for _, n := range []int{math.MinInt, math.MinInt + 1, 1 << 62, math.MaxInt} {
		refused(2, 1, n, api.ErrArg)
	}
	for kind := 1; kind <= 4; kind++ {
		for _, n := range divisors {
			for _, from := range badFrom {
				refused(kind, from, n, api.ErrRange)
			}
		}
	}
	for from := -100; from <= 9700; from++ {
		if from < 1 || from > 9571 || from%30 != 1 {
			refused(3, from, 12, api.ErrRange)
		}
	}
	for _, kind := range badKinds {
		for _, from := range append(badFrom, 1, 1441, 9571) {
			for _, n := range []int{0, 1, 7, 12, 360} {
				refused(kind, from, n, api.ErrArg)
			}
		}
	}
}

// TestP64Memory changes one result and looks at the next one.
func TestP64Memory(t *testing.T) {
	a, _ := Months(1, 1, 12)
	for i := range a.L {
		a.L[i] = api.Span{}
	}
	if b, e := Months(1, 1, 12); e != api.OK || !slices.Equal(b.L, counted(1, 1, 12)) {
		t.Error(b, e)
	}
}
