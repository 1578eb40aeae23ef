package leap

import (
	"math"
	"reflect"
	"slices"
	"testing"

	"civiltime/api"
)

const day = api.DaySeconds

// strange are integers at and beyond the bounds of instants, atomic times, and int.
var strange = []int{
	math.MinInt, math.MinInt + 1, -1 << 62, -1 << 32, api.MinTime - day, api.MinTime - 1, api.MinTime, api.MinTime + 1, api.MinTime + 59, api.MinTime + 60, api.MinTime + day, -day - 1, -day, -61, -60, -59, -1,
	0, 1, 2, 59, 60, 61, 100, 101, day - 1, day, day + 1, 1782863999, 1782864000, 1782864001,
	api.MaxTime - day - 1, api.MaxTime - day, api.MaxTime - 61, api.MaxTime - 60, api.MaxTime - 1, api.MaxTime, api.MaxTime + 1, api.MaxTime + 99, api.MaxTime + 100, api.MaxTime + 101, api.MaxTime + day, 1 << 62, math.MaxInt - 1, math.MaxInt,
}

// outside are no instants.
var outside = []int{math.MinInt, math.MinInt + 1, api.MinTime - day, api.MinTime - 1, api.MaxTime, api.MaxTime + 1, api.MaxTime + 26, api.MaxTime + 100, 1 << 62, math.MaxInt}

// table returns the table with steps at the given instants.
func table(ats ...int) api.LeapTable {
	var t api.LeapTable
	for i, at := range ats {
		t.L = append(t.L, api.LeapStep{At: at, Total: i + 1})
	}
	return t
}

// row returns n instants from one on, at a distance of some days.
func row(from, n, days int) []int {
	var l []int
	for i := range n {
		l = append(l, from+i*days*day)
	}
	return l
}

// past are the instants that followed the leap seconds from 1972 to 2016.
func past() []int {
	return []int{
		78796800, 94694400, 126230400, 157766400, 189302400, 220924800, 252460800, 283996800, 315532800,
		362793600, 394329600, 425865600, 489024000, 567993600, 631152000, 662688000, 709948800, 741484800,
		773020800, 820454400, 867715200, 915148800, 1136073600, 1230768000, 1341100800, 1435708800, 1483228800,
	}
}

// validTables are valid: without steps, with few and many, side by side, far away, and at both ends.
func validTables() []api.LeapTable {
	return []api.LeapTable{
		{}, {L: []api.LeapStep{}}, table(0), table(day), table(-day), table(1782864000), table(1782864000, 1830297600), table(past()...),
		table(api.MinTime + day), table(api.MaxTime - day), table(api.MinTime+day, api.MaxTime-day), table(-2*day, -day, 0, day, 2*day),
		table(row(api.MinTime+day, 100, 1)...), table(row(api.MaxTime-100*day, 100, 1)...), table(row(-50*day, 100, 1)...), table(row(api.MinTime+day, 100, 36000)...),
	}
}

// invalidTables are not valid, each for one reason at least.
func invalidTables() []api.LeapTable {
	l := []api.LeapTable{
		table(1), table(-1), table(86399), table(86401), table(-86399), table(60), table(3600), table(1782864000 + 1), table(43200),
		table(api.MinTime), table(api.MinTime - day), table(api.MinTime + 1), table(api.MaxTime), table(api.MaxTime - 1), table(api.MaxTime + day), table(math.MinInt / day * day), table(math.MaxInt / day * day), table(math.MinInt), table(math.MaxInt),
		table(0, 0), table(day, 0), table(0, -day), table(0, day, day), table(0, 2*day, day), table(0, day, 2*day+1), table(0, day, api.MaxTime), table(api.MinTime, 0), table(0, day, math.MinInt/day*day),
		table(row(0, 101, 1)...), table(row(0, 102, 1)...), table(row(0, 1000, 1)...),
	}
	for _, total := range []int{0, 2, -1, 100, math.MinInt, math.MaxInt} {
		l = append(l, api.LeapTable{L: []api.LeapStep{{At: 0, Total: total}}})
	}
	for _, totals := range [][2]int{{1, 1}, {1, 3}, {1, 0}, {0, 1}, {2, 1}, {2, 2}, {2, 3}, {-1, 2}, {0, 2}, {1, -2}} {
		l = append(l, api.LeapTable{L: []api.LeapStep{{At: 0, Total: totals[0]}, {At: day, Total: totals[1]}}})
	}
	last := table(row(0, 100, 1)...)
	last.L[99].Total = 99
	return append(l, last)
}

// counted counts the steps up to an instant, one by one.
func counted(t api.LeapTable, at int) int {
	n := 0
	for _, step := range t.L {
		if step.At <= at {
			n++
		}
	}
	return n
}

func isInstant(at int) bool { return at >= api.MinTime && at < api.MaxTime }

// sought looks for the instant with an atomic time among all that are near.
func sought(t api.LeapTable, atomic int) (at int, inside, ok bool) {
	for _, step := range t.L {
		if step.At+step.Total-1 == atomic {
			return step.At, true, true
		}
	}
	if atomic < api.MinTime || atomic > api.MaxTime+len(t.L)-1 {
		return 0, false, false
	}
	for at := atomic - len(t.L); at <= atomic; at++ {
		if isInstant(at) && at+counted(t, at) == atomic {
			return at, false, true
		}
	}
	return 0, false, false
}

// instants returns some instants of the line, and those near steps.
func instants(t api.LeapTable) []int {
	l := []int{api.MinTime, api.MinTime + 1, api.MinTime + 61, -1, 0, 1, 951827696, api.MaxTime - 61, api.MaxTime - 2, api.MaxTime - 1}
	for i, step := range t.L {
		if len(t.L) > 30 && i%33 > 0 {
			continue
		}
		for _, d := range []int{-day - 1, -day, -day + 1, -3600, -121, -120, -61, -60, -59, -2, -1, 0, 1, 2, 59, 60, 61, day - 1, day, day + 1} {
			if isInstant(step.At + d) {
				l = append(l, step.At+d)
			}
		}
	}
	slices.Sort(l)
	return slices.Compact(l)
}

func TestP91Valid(t *testing.T) {
	for _, l := range validTables() {
		if !Valid(l) {
			t.Errorf("Valid(%v) = false", l)
		}
	}
	for _, l := range invalidTables() {
		if Valid(l) {
			t.Errorf("Valid(%v) = true", l)
		}
	}
}

// TestP91EveryBit changes each number of a valid table in each of its bits: no power of two is a whole number of days.
func TestP91EveryBit(t *testing.T) {
	for bit := range 64 {
		l := table(-day, 0, day)
		l.L[1].Total ^= 1 << bit
		if Valid(l) {
			t.Errorf("Valid with the total %d", l.L[1].Total)
		}
		l = table(-day, 0, day)
		l.L[1].At ^= 1 << bit
		if Valid(l) {
			t.Errorf("Valid with a step at %d", l.L[1].At)
		}
	}
}

func TestP93Examples(t *testing.T) {
	for _, c := range []struct {
		l          api.LeapTable
		at, atomic int
	}{
		{table(), 0, 0}, {table(), api.MinTime, api.MinTime}, {table(), api.MaxTime - 1, api.MaxTime - 1},
		{table(1782864000), 1782863999, 1782863999}, {table(1782864000), 1782864000, 1782864001}, {table(1782864000), 1782864001, 1782864002},
		{table(0), -1, -1}, {table(0), 0, 1}, {table(-day, 0), -1, 0}, {table(-day, 0), 0, 2}, {table(-day, 0), -day, -day + 1}, {table(-day, 0), -day - 1, -day - 1},
		{table(past()...), 78796799, 78796799}, {table(past()...), 78796800, 78796801}, {table(past()...), 1483228799, 1483228825}, {table(past()...), 1483228800, 1483228827}, {table(past()...), 1772323199, 1772323226},
		{table(api.MinTime + day), api.MinTime, api.MinTime}, {table(api.MinTime + day), api.MinTime + day, api.MinTime + day + 1}, {table(api.MaxTime - day), api.MaxTime - 1, api.MaxTime}, {table(past()...), api.MaxTime - 1, api.MaxTime + 26},
	} {
		if n, e := Atomic(c.l, c.at); n != c.atomic || e != api.OK {
			t.Errorf("Atomic(%v, %d) = %d, %d; want %d", c.l, c.at, n, e, c.atomic)
		}
		if at, inside, e := Civil(c.l, c.atomic); at != c.at || inside || e != api.OK {
			t.Errorf("Civil(%v, %d) = %d, %t, %d; want %d", c.l, c.atomic, at, inside, e, c.at)
		}
	}
}

func TestP93Inserted(t *testing.T) {
	for _, c := range []struct {
		l          api.LeapTable
		atomic, at int
	}{
		{table(1782864000), 1782864000, 1782864000}, {table(0), 0, 0}, {table(-day, 0), -day, -day}, {table(-day, 0), 1, 0}, {table(past()...), 78796800, 78796800}, {table(past()...), 1483228826, 1483228800},
		{table(api.MinTime + day), api.MinTime + day, api.MinTime + day}, {table(api.MaxTime - day), api.MaxTime - day, api.MaxTime - day}, {table(row(api.MaxTime-100*day, 100, 1)...), api.MaxTime - day + 99, api.MaxTime - day},
	} {
		if at, inside, e := Civil(c.l, c.atomic); at != c.at || !inside || e != api.OK {
			t.Errorf("Civil(%v, %d) = %d, %t, %d; want %d inside", c.l, c.atomic, at, inside, e, c.at)
		}
	}
}

func TestP93ByDefinition(t *testing.T) {
	for _, l := range validTables() {
		for _, at := range instants(l) {
			if n, e := Atomic(l, at); n != at+counted(l, at) || e != api.OK {
				t.Errorf("Atomic(%v, %d) = %d, %d; want %d", l, at, n, e, at+counted(l, at))
			}
			for atomic := at - 2; atomic <= at+len(l.L)+2; atomic++ {
				want, wantInside, ok := sought(l, atomic)
				wantError := api.OK
				if !ok {
					wantError = api.ErrRange
				}
				if n, inside, e := Civil(l, atomic); n != want || inside != wantInside || e != wantError {
					t.Fatalf("Civil(%v, %d) = %d, %t, %d; want %d, %t, %d", l, atomic, n, inside, e, want, wantInside, wantError)
				}
			}
		}
	}
}

// TestP93EverySecond counts the seconds of four days, with one more at the end of three of them.
func TestP93EverySecond(t *testing.T) {
	for _, first := range []int{api.MinTime + day, -day, 0, 1782864000, api.MaxTime - 3*day} {
		l := table(first, first+day, first+2*day)
		atomic := first - day
		for at := first - day; at < first+3*day; at++ {
			if at%day == 0 && at >= first {
				if n, inside, e := Civil(l, atomic); n != at || !inside || e != api.OK {
					t.Fatalf("Civil(%v, %d) = %d, %t, %d; want %d inside", l, atomic, n, inside, e, at)
				}
				atomic++
			}
			if n, e := Atomic(l, at); n != atomic || e != api.OK {
				t.Fatalf("Atomic(%v, %d) = %d, %d; want %d", l, at, n, e, atomic)
			}
			if n, inside, e := Civil(l, atomic); n != at || inside || e != api.OK {
				t.Fatalf("Civil(%v, %d) = %d, %t, %d; want %d", l, atomic, n, inside, e, at)
			}
			atomic++
		}
	}
}

func TestP93Errors(t *testing.T) {
	for _, l := range validTables() {
		for _, at := range outside {
			if n, e := Atomic(l, at); n != 0 || e != api.ErrRange {
				t.Errorf("Atomic(%v, %d) = %d, %d", l, at, n, e)
			}
		}
		n := len(l.L)
		for _, atomic := range []int{api.MinTime - 1, api.MinTime - n, api.MinTime - n - 1, api.MaxTime + n, api.MaxTime + n + 1, api.MaxTime + 100, math.MinInt, math.MaxInt} {
			if n == 0 && atomic == api.MinTime {
				continue
			}
			if at, inside, e := Civil(l, atomic); at != 0 || inside || e != api.ErrRange {
				t.Errorf("Civil(%v, %d) = %d, %t, %d", l, atomic, at, inside, e)
			}
		}
		if at, inside, e := Civil(l, api.MinTime); at != api.MinTime || inside || e != api.OK {
			t.Errorf("Civil(%v, MinTime) = %d, %t, %d", l, at, inside, e)
		}
		if at, inside, e := Civil(l, api.MaxTime+n-1); at != api.MaxTime-1 || inside || e != api.OK {
			t.Errorf("Civil(%v, MaxTime + %d) = %d, %t, %d", l, n-1, at, inside, e)
		}
	}
}

func TestP94Distance(t *testing.T) {
	for _, c := range []struct {
		l       api.LeapTable
		a, b, n int
	}{
		{table(), 0, 0, 0}, {table(), 0, 5, 5}, {table(), 5, 0, -5}, {table(), api.MinTime, api.MaxTime - 1, api.MaxTime - api.MinTime - 1}, {table(1782864000), 1782863999, 1782864000, 2}, {table(1782864000), 1782864000, 1782863999, -2}, {table(1782864000), 1782863998, 1782863999, 1}, {table(1782864000), 1782864000, 1782864001, 1},
		{table(past()...), 0, 1483228800, 1483228827}, {table(past()...), 1483228800, 78796799, 78796799 - 1483228827}, {table(past()...), api.MinTime, api.MaxTime - 1, api.MaxTime - api.MinTime + 26}, {table(past()...), 1435708800, 1483228799, 47519999},
	} {
		if n, e := Distance(c.l, c.a, c.b); n != c.n || e != api.OK {
			t.Errorf("Distance(%v, %d, %d) = %d, %d; want %d", c.l, c.a, c.b, n, e, c.n)
		}
	}
	for _, l := range validTables() {
		for _, a := range instants(l) {
			for _, b := range instants(l) {
				want := b - a + counted(l, b) - counted(l, a)
				if n, e := Distance(l, a, b); n != want || e != api.OK {
					t.Fatalf("Distance(%v, %d, %d) = %d, %d; want %d", l, a, b, n, e, want)
				}
			}
		}
	}
}

func TestP94DistanceErrors(t *testing.T) {
	for _, l := range validTables() {
		for _, at := range outside {
			for _, c := range [][2]int{{at, 0}, {0, at}, {at, at}, {at, outside[0]}} {
				if n, e := Distance(l, c[0], c[1]); n != 0 || e != api.ErrRange {
					t.Errorf("Distance(%v, %d, %d) = %d, %d", l, c[0], c[1], n, e)
				}
			}
		}
	}
}

func TestP94Minute(t *testing.T) {
	for _, c := range []struct {
		l     api.LeapTable
		at, n int
	}{
		{table(), 0, 60}, {table(), -1, 60}, {table(), api.MinTime, 60}, {table(), api.MaxTime - 1, 60}, {table(1782864000), 1782863939, 60}, {table(1782864000), 1782863940, 61}, {table(1782864000), 1782863970, 61}, {table(1782864000), 1782863999, 61}, {table(1782864000), 1782864000, 60}, {table(1782864000), 1782864059, 60}, {table(1782864000), 1782864060, 60},
		{table(0), -61, 60}, {table(0), -60, 61}, {table(0), -1, 61}, {table(0), 0, 60}, {table(api.MaxTime - day), api.MaxTime - 1, 60}, {table(api.MaxTime - day), api.MaxTime - day - 1, 61}, {table(api.MinTime + day), api.MinTime, 60}, {table(api.MinTime + day), api.MinTime + day - 60, 61},
	} {
		if n, e := Minute(c.l, c.at); n != c.n || e != api.OK {
			t.Errorf("Minute(%v, %d) = %d, %d; want %d", c.l, c.at, n, e, c.n)
		}
	}
	for _, l := range validTables() {
		for _, at := range outside {
			if n, e := Minute(l, at); n != 0 || e != api.ErrRange {
				t.Errorf("Minute(%v, %d) = %d, %d", l, at, n, e)
			}
		}
	}
}

// TestP94MinuteCounts counts the atomic times of each minute of two days, those of inserted seconds among them.
func TestP94MinuteCounts(t *testing.T) {
	for _, first := range []int{api.MinTime + day, -day, 0, 1782864000, api.MaxTime - 2*day} {
		l := table(first, first+day)
		for begin := first - day; begin < first+day; begin += 60 {
			from, _ := Atomic(l, begin)
			to, _ := Atomic(l, begin+60)
			for _, at := range []int{begin, begin + 1, begin + 30, begin + 59} {
				if n, e := Minute(l, at); n != to-from || e != api.OK {
					t.Fatalf("Minute(%v, %d) = %d, %d; want %d", l, at, n, e, to-from)
				}
			}
		}
	}
}

func TestP95Examples(t *testing.T) {
	for _, c := range []struct {
		l         api.LeapTable
		at, n, to int
		e         api.Errno
	}{
		{table(), 0, 0, 0, api.OK}, {table(), 0, 5, 5, api.OK}, {table(), 5, -7, -2, api.OK}, {table(1782864000), 1782863998, 1, 1782863999, api.OK}, {table(1782864000), 1782863999, 1, 0, api.ErrGap}, {table(1782864000), 1782863999, 2, 1782864000, api.OK}, {table(1782864000), 1782864000, -1, 0, api.ErrGap}, {table(1782864000), 1782864000, -2, 1782863999, api.OK}, {table(1782864000), 1782864000, 0, 1782864000, api.OK}, {table(1782864000), 1782864000, 1, 1782864001, api.OK},
		{table(1782864000), 0, 1782864000, 0, api.ErrGap}, {table(1782864000), 0, 1782864001, 1782864000, api.OK}, {table(0, day), -1, 2, 0, api.OK}, {table(0, day), -1, day + 2, 0, api.ErrGap}, {table(0, day), -1, day + 3, day, api.OK}, {table(0, day), day, -day - 2, 0, api.ErrGap},
		{table(0), 0, api.MaxTime - 1, api.MaxTime - 1, api.OK}, {table(0), 0, api.MaxTime, 0, api.ErrRange}, {table(0), -1, api.MaxTime, api.MaxTime - 2, api.OK}, {table(0), -1, api.MaxTime + 1, api.MaxTime - 1, api.OK}, {table(0), -1, api.MaxTime + 2, 0, api.ErrRange}, {table(0), 0, api.MinTime - 1, api.MinTime, api.OK}, {table(0), 0, api.MinTime - 2, 0, api.ErrRange}, {table(0), 0, -1, 0, api.ErrGap},
		{table(), api.MaxTime - 1, 0, api.MaxTime - 1, api.OK}, {table(), api.MaxTime - 1, 1, 0, api.ErrRange}, {table(), api.MinTime, 0, api.MinTime, api.OK}, {table(), api.MinTime, -1, 0, api.ErrRange}, {table(), api.MinTime, api.MaxTime - api.MinTime - 1, api.MaxTime - 1, api.OK}, {table(), api.MinTime, api.MaxTime - api.MinTime, 0, api.ErrRange},
		{table(), 1, math.MaxInt, 0, api.ErrRange}, {table(), -1, math.MinInt, 0, api.ErrRange}, {table(), api.MaxTime - 1, math.MaxInt, 0, api.ErrRange}, {table(), api.MinTime, math.MinInt, 0, api.ErrRange}, {table(0), 0, math.MinInt, 0, api.ErrRange}, {table(0), 0, math.MaxInt, 0, api.ErrRange},
	} {
		if to, e := Add(c.l, c.at, c.n); to != c.to || e != c.e {
			t.Errorf("Add(%v, %d, %d) = %d, %d; want %d, %d", c.l, c.at, c.n, to, e, c.to, c.e)
		}
	}
}

// TestP95ByDefinition goes to every instant near a step, and to the seconds before and behind.
func TestP95ByDefinition(t *testing.T) {
	for _, l := range validTables() {
		for _, at := range instants(l) {
			from := at + counted(l, at)
			for _, to := range instants(l) {
				for d := -2; d <= 2; d++ {
					atomic := to + counted(l, to) + d
					want, inside, ok := sought(l, atomic)
					wantError := api.OK
					switch {
					case !ok:
						wantError = api.ErrRange
					case inside:
						want, wantError = 0, api.ErrGap
					}
					if n, e := Add(l, at, atomic-from); n != want || e != wantError {
						t.Fatalf("Add(%v, %d, %d) = %d, %d; want %d, %d", l, at, atomic-from, n, e, want, wantError)
					}
				}
			}
		}
	}
}

func TestP95Errors(t *testing.T) {
	for _, l := range validTables() {
		for _, at := range outside {
			for _, n := range []int{0, 1, -1, -at, math.MinInt, math.MaxInt} {
				if to, e := Add(l, at, n); to != 0 || e != api.ErrRange {
					t.Errorf("Add(%v, %d, %d) = %d, %d", l, at, n, to, e)
				}
			}
		}
	}
}

// TestErrArgFirst has tables that are not valid with instants that are, and with such as are not.
func TestErrArgFirst(t *testing.T) {
	for _, l := range invalidTables() {
		for _, at := range append([]int{0, 1782864000}, outside...) {
			if n, e := Atomic(l, at); n != 0 || e != api.ErrArg {
				t.Errorf("Atomic(%v, %d) = %d, %d", l, at, n, e)
			}
			if n, inside, e := Civil(l, at); n != 0 || inside || e != api.ErrArg {
				t.Errorf("Civil(%v, %d) = %d, %t, %d", l, at, n, inside, e)
			}
			if n, e := Minute(l, at); n != 0 || e != api.ErrArg {
				t.Errorf("Minute(%v, %d) = %d, %d", l, at, n, e)
			}
			for _, b := range []int{0, math.MinInt, math.MaxInt} {
				if n, e := Distance(l, at, b); n != 0 || e != api.ErrArg {
					t.Errorf("Distance(%v, %d, %d) = %d, %d", l, at, b, n, e)
				}
				if n, e := Add(l, at, b); n != 0 || e != api.ErrArg {
					t.Errorf("Add(%v, %d, %d) = %d, %d", l, at, b, n, e)
				}
			}
		}
	}
}

func TestP96Inverse(t *testing.T) {
	for _, l := range validTables() {
		last := math.MinInt
		for _, at := range instants(l) {
			n, _ := Atomic(l, at)
			if n <= last {
				t.Errorf("Atomic(%v, %d) = %d, behind %d", l, at, n, last)
			}
			last = n
			if back, inside, e := Civil(l, n); back != at || inside || e != api.OK {
				t.Errorf("Civil(%v, %d) = %d, %t, %d; want %d", l, n, back, inside, e, at)
			}
			for _, d := range []int{-2, -1, 1, 2} {
				back, inside, e := Civil(l, n+d)
				if e != api.OK || inside {
					continue
				}
				if again, e := Atomic(l, back); again != n+d || e != api.OK {
					t.Errorf("Atomic(%v, %d) = %d, %d; want %d", l, back, again, e, n+d)
				}
			}
		}
	}
}

func TestP96Distances(t *testing.T) {
	for _, l := range validTables() {
		some := instants(l)
		for i, a := range some {
			b, c := some[i*7%len(some)], some[i*11%len(some)]
			ab, _ := Distance(l, a, b)
			bc, _ := Distance(l, b, c)
			if ac, e := Distance(l, a, c); ac != ab+bc || e != api.OK {
				t.Errorf("Distance(%v, %d, %d) = %d, %d; want %d + %d", l, a, c, ac, e, ab, bc)
			}
			if n, e := Add(l, a, ab); n != b || e != api.OK {
				t.Errorf("Add(%v, %d, %d) = %d, %d; want %d", l, a, ab, n, e, b)
			}
		}
	}
}

// TestP96NextDay has the lengths of days, all of them for the table of the past.
func TestP96NextDay(t *testing.T) {
	for i, l := range validTables() {
		step := 9973 * day
		if i == 7 {
			step = day
		}
		long := 0
		for at := api.MinTime; at < api.MaxTime-day; at += step {
			want := day
			if slices.ContainsFunc(l.L, func(s api.LeapStep) bool { return s.At == at+day }) {
				want++
				long++
			}
			if n, e := Distance(l, at, at+day); n != want || e != api.OK {
				t.Fatalf("Distance(%v, %d, %d) = %d, %d; want %d", l, at, at+day, n, e, want)
			}
		}
		if step == day && long != len(l.L) {
			t.Errorf("%d long days in %v", long, l)
		}
	}
}

// TestP1 calls every function with all numbers that may be dangerous: none of them panics, or changes a table, and with an error the other results are zero.
func TestP1(t *testing.T) {
	check := func(e api.Errno, zero bool) {
		t.Helper()
		if e != api.OK && !zero {
			t.Errorf("a result beside the error %d", e)
		}
	}
	tables := append(validTables(), invalidTables()...)
	for _, a := range strange {
		tables = append(tables, table(a), table(0, a), table(a, 0), api.LeapTable{L: []api.LeapStep{{At: a, Total: a}}})
	}
	for _, l := range tables {
		before := slices.Clone(l.L)
		s, e := Text(l)
		check(e, s == "")
		for _, a := range strange {
			n, e := Atomic(l, a)
			check(e, n == 0)
			at, inside, e := Civil(l, a)
			check(e, at == 0 && !inside)
			n, e = Minute(l, a)
			check(e, n == 0)
			for _, b := range strange {
				n, e := Distance(l, a, b)
				check(e, n == 0)
				n, e = Add(l, a, b)
				check(e, n == 0)
			}
		}
		if !reflect.DeepEqual(before, l.L) {
			t.Errorf("the table %v was changed to %v", before, l.L)
		}
	}
}
