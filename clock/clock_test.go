package clock

import (
	"math"
	"testing"
	"time"

	"civiltime/api"
	"civiltime/civil"
)

func timeOf(hour, minute, second int) api.Time {
	return api.Time{Hour: hour, Minute: minute, Second: second}
}

func moment(year, month, day, hour, minute, second int) api.Moment {
	return api.Moment{Date: api.Date{Year: year, Month: month, Day: day}, Time: timeOf(hour, minute, second)}
}

// standard is the moment of an instant by Go's time package.
func standard(t int) api.Moment {
	u := time.Unix(int64(t), 0).UTC()
	return moment(u.Year(), int(u.Month()), u.Day(), u.Hour(), u.Minute(), u.Second())
}

// strange are integers at and beyond the bounds of times, days, instants, and int.
var strange = []int{
	math.MinInt, math.MinInt + 1, math.MinInt / 86400, -1 << 62, -api.MaxLine - 1, -api.MaxLine, -api.MaxLine + 1, api.MinTime - 1, api.MinTime, api.MinTime + 1, api.MinDay - 1, api.MinDay, -86401, -86400, -86399, -60, -2, -1,
	0, 1, 2, 3, 4, 12, 13, 23, 24, 28, 29, 30, 31, 32, 59, 60, 61, 2024, 3600, 9999, 10000, 86399, 86400, 86401,
	api.MaxDay - 1, api.MaxDay, api.MaxTime - 1, api.MaxTime, api.MaxLine - 1, api.MaxLine, api.MaxLine + 1, 1 << 62, math.MaxInt / 86400, math.MaxInt - 1, math.MaxInt,
}

// invalidTimes are times of day that are not valid, each by one number at least.
var invalidTimes = []api.Time{
	timeOf(24, 0, 0), timeOf(-1, 0, 0), timeOf(25, 59, 59), timeOf(math.MinInt, 0, 0), timeOf(math.MaxInt, 0, 0),
	timeOf(0, 60, 0), timeOf(0, -1, 0), timeOf(23, 60, 59), timeOf(0, math.MinInt, 0), timeOf(0, math.MaxInt, 0),
	timeOf(0, 0, 60), timeOf(0, 0, -1), timeOf(23, 59, 60), timeOf(0, 0, 61), timeOf(0, 0, math.MinInt), timeOf(0, 0, math.MaxInt),
	// Numbers that would make up for one another.
	timeOf(1, -1, 0), timeOf(0, 1, -1), timeOf(24, -1, 59), timeOf(-1, 60, 0),
}

// invalidMoments are moments that are not valid, by the date or by the time or by both.
func invalidMoments() []api.Moment {
	l := []api.Moment{
		{}, moment(0, 12, 31, 0, 0, 0), moment(10000, 1, 1, 0, 0, 0), moment(-1, 1, 1, 0, 0, 0), moment(2026, 0, 1, 0, 0, 0), moment(2026, 13, 1, 0, 0, 0), moment(2026, 1, 0, 0, 0, 0), moment(2026, 2, 29, 0, 0, 0), moment(2026, 4, 31, 12, 0, 0),
		moment(math.MinInt, 1, 1, 0, 0, 0), moment(math.MaxInt, 1, 1, 0, 0, 0), moment(2026, math.MaxInt, 1, 0, 0, 0), moment(2026, 1, math.MinInt, 0, 0, 0), moment(2026, 2, 30, 24, 0, 0),
	}
	for _, t := range invalidTimes {
		l = append(l, api.Moment{Date: api.Date{Year: 2026, Month: 2, Day: 28}, Time: t})
	}
	return l
}

func TestP41Seconds(t *testing.T) {
	for _, c := range []struct {
		time   api.Time
		second int
	}{
		{timeOf(0, 0, 0), 0}, {timeOf(0, 0, 59), 59}, {timeOf(0, 1, 0), 60}, {timeOf(0, 59, 59), 3599}, {timeOf(1, 0, 0), 3600}, {timeOf(1, 1, 1), 3661}, {timeOf(12, 34, 56), 45296}, {timeOf(23, 0, 0), 82800}, {timeOf(23, 59, 59), 86399},
	} {
		if n, e := Seconds(c.time); n != c.second || e != api.OK {
			t.Errorf("Seconds(%v) = %d, %d", c.time, n, e)
		}
		if x, e := Time(c.second); x != c.time || e != api.OK {
			t.Errorf("Time(%d) = %v, %d", c.second, x, e)
		}
	}
	for _, x := range invalidTimes {
		if n, e := Seconds(x); n != 0 || e != api.ErrArg {
			t.Errorf("Seconds(%v) = %d, %d", x, n, e)
		}
	}
	for _, n := range []int{-1, -2, -60, -86400, 86400, 86401, 2 * 86400, math.MinInt, math.MaxInt} {
		if x, e := Time(n); x != (api.Time{}) || e != api.ErrRange {
			t.Errorf("Time(%d) = %v, %d", n, x, e)
		}
	}
}

// TestP41AllTimes counts all times of a day, one after the other.
func TestP41AllTimes(t *testing.T) {
	second := 0
	for hour := range 24 {
		for minute := range 60 {
			for s := range 60 {
				x := timeOf(hour, minute, s)
				if n, e := Seconds(x); n != second || e != api.OK {
					t.Fatalf("Seconds(%v) = %d, %d; want %d", x, n, e, second)
				}
				if got, e := Time(second); got != x || e != api.OK {
					t.Fatalf("Time(%d) = %v, %d; want %v", second, got, e, x)
				}
				second++
			}
		}
	}
	if second != api.DaySeconds {
		t.Errorf("%d times", second)
	}
}

func TestP42AtSplit(t *testing.T) {
	for _, c := range []struct{ day, second, t int }{
		{0, 0, 0}, {0, 1, 1}, {0, 86399, 86399}, {1, 0, 86400}, {-1, 86399, -1}, {-1, 0, -86400}, {-2, 86399, -86401}, {20512, 86399, 1772323199}, {20513, 0, 1772323200},
		{api.MinDay, 0, api.MinTime}, {api.MinDay, 86399, api.MinTime + 86399}, {api.MaxDay - 1, 0, api.MaxTime - 86400}, {api.MaxDay - 1, 86399, api.MaxTime - 1},
	} {
		if n, e := At(c.day, c.second); n != c.t || e != api.OK {
			t.Errorf("At(%d, %d) = %d, %d", c.day, c.second, n, e)
		}
		if day, second, e := Split(c.t); day != c.day || second != c.second || e != api.OK {
			t.Errorf("Split(%d) = %d, %d, %d", c.t, day, second, e)
		}
	}
	for _, c := range [][2]int{
		{api.MinDay - 1, 0}, {api.MinDay - 1, 86399}, {api.MaxDay, 0}, {api.MaxDay, 86399}, {0, -1}, {0, 86400}, {1, -86400}, {-1, 86400}, {api.MinDay, -1}, {api.MaxDay - 1, 86400}, {api.MaxDay, -1}, {api.MinDay - 1, 86400},
		{math.MinInt, 0}, {math.MaxInt, 0}, {0, math.MinInt}, {0, math.MaxInt}, {math.MinInt, math.MinInt}, {math.MaxInt, math.MaxInt},
	} {
		if n, e := At(c[0], c[1]); n != 0 || e != api.ErrRange {
			t.Errorf("At(%d, %d) = %d, %d", c[0], c[1], n, e)
		}
	}
	for _, n := range []int{api.MinTime - 1, api.MaxTime, api.MaxTime + 1, api.MinTime - 86400, math.MinInt, math.MaxInt} {
		if day, second, e := Split(n); day != 0 || second != 0 || e != api.ErrRange {
			t.Errorf("Split(%d) = %d, %d, %d", n, day, second, e)
		}
	}
}

func TestP43MomentOf(t *testing.T) {
	for _, c := range []struct {
		t int
		m api.Moment
	}{
		{0, moment(1970, 1, 1, 0, 0, 0)}, {-1, moment(1969, 12, 31, 23, 59, 59)}, {86400, moment(1970, 1, 2, 0, 0, 0)}, {1772323199, moment(2026, 2, 28, 23, 59, 59)}, {1772323200, moment(2026, 3, 1, 0, 0, 0)}, {951827696, moment(2000, 2, 29, 12, 34, 56)},
		{api.MinTime, moment(1, 1, 1, 0, 0, 0)}, {api.MaxTime - 1, moment(9999, 12, 31, 23, 59, 59)},
	} {
		if m, e := Moment(c.t); m != c.m || e != api.OK {
			t.Errorf("Moment(%d) = %v, %d", c.t, m, e)
		}
		if n, e := Of(c.m); n != c.t || e != api.OK {
			t.Errorf("Of(%v) = %d, %d", c.m, n, e)
		}
	}
	for _, n := range []int{api.MinTime - 1, api.MaxTime, api.MaxTime + 1, math.MinInt, math.MaxInt} {
		if m, e := Moment(n); m != (api.Moment{}) || e != api.ErrRange {
			t.Errorf("Moment(%d) = %v, %d", n, m, e)
		}
	}
	for _, m := range invalidMoments() {
		if n, e := Of(m); n != 0 || e != api.ErrArg {
			t.Errorf("Of(%v) = %d, %d", m, n, e)
		}
	}
}

// TestP43EveryDay looks at one instant of each day, each time at another second, and at both ends of some days.
func TestP43EveryDay(t *testing.T) {
	for day := api.MinDay; day < api.MaxDay; day++ {
		seconds := []int{(day - api.MinDay) * 7919 % 86400}
		if day%97 == 0 {
			seconds = []int{0, 86399}
		}
		date, _ := civil.Date(day)
		for _, second := range seconds {
			n := day*86400 + second
			m, e := Moment(n)
			if want := standard(n); m != want || m.Date != date || e != api.OK {
				t.Fatalf("Moment(%d) = %v, %d; want %v", n, m, e, want)
			}
			if got, e := Of(m); got != n || e != api.OK {
				t.Fatalf("Of(%v) = %d, %d; want %d", m, got, e, n)
			}
		}
	}
}

func TestP47AtAndSplit(t *testing.T) {
	for n := api.MinTime; n < api.MaxTime; n += 99991 {
		day, second, e := Split(n)
		if e != api.OK || second < 0 || second >= 86400 || day*86400+second != n {
			t.Fatalf("Split(%d) = %d, %d, %d", n, day, second, e)
		}
		if got, e := At(day, second); got != n || e != api.OK {
			t.Fatalf("At(%d, %d) = %d, %d; want %d", day, second, got, e, n)
		}
	}
}

// TestP1 calls every function with all numbers that may be dangerous: none of them panics, and with an error the other results are zero.
func TestP1(t *testing.T) {
	check := func(e api.Errno, zero bool) {
		t.Helper()
		if e != api.OK && !zero {
			t.Errorf("a result beside the error %d", e)
		}
	}
	for _, a := range strange {
		x, e := Time(a)
		check(e, x == api.Time{})
		day, second, e := Split(a)
		check(e, day == 0 && second == 0)
		m, e := Moment(a)
		check(e, m == api.Moment{})
		if s := Duration(a); (s == "") != (a < -api.MaxLine || a > api.MaxLine) {
			t.Errorf("Duration(%d) = %q", a, s)
		}
		for _, b := range strange {
			n, e := At(a, b)
			check(e, n == 0)
			for _, c := range strange {
				n, e := Seconds(timeOf(a, b, c))
				check(e, n == 0)
				n, e = Round(a, b, c)
				check(e, n == 0)
				for _, m := range []api.Moment{moment(a, b, c, 0, 0, 0), moment(2024, 2, 29, a, b, c), moment(a, b, c, a, b, c)} {
					n, e := Of(m)
					check(e, n == 0)
					if s := Text(m); (s == "") != (e != api.OK) {
						t.Errorf("Text(%v) = %q", m, s)
					}
				}
			}
		}
	}
}
