package timeset

import (
	"math"
	"slices"
	"testing"

	"civiltime/api"
)

// noSpans are no valid intervals.
var noSpans = []api.Span{
	span(0, 0), span(1, 1), span(2, 1), span(line, line), span(-line, -line), span(line, -line), span(0, line+1), span(-line-1, 0), span(-line-1, line+1), span(line, line+1), span(-line-1, -line),
	span(math.MinInt, math.MaxInt), span(math.MaxInt, math.MinInt), span(math.MinInt, 0), span(0, math.MaxInt), span(math.MinInt, math.MinInt), span(math.MaxInt, math.MaxInt),
}

// placed calls a function with small sets around 0, far from it, and at both ends of the line.
func placed(see func(s api.Set)) {
	for _, from := range []int{-2, 0, 3, 1 << 40, -1 << 40, -line, -line + 2, line - 3} {
		for _, s := range small(cycles(3), from, 3) {
			see(s)
		}
	}
}

func TestP146Examples(t *testing.T) {
	two, seven := cycle(2, 0, 1), cycle(7, 0, 1)
	mixed := fields(two, two, 3, 6, list(3, 6))
	for _, c := range []struct {
		s    api.Set
		in   api.Span
		want []api.Span
	}{
		{mixed, span(0, 8), list(0, 1, 2, 7)}, {mixed, span(3, 6), list(3, 6)}, {mixed, span(4, 5), list(4, 5)}, {mixed, span(5, 9), list(5, 7, 8, 9)}, {mixed, span(-4, 0), list(-4, -3, -2, -1)}, {mixed, span(7, 8), nil}, {mixed, span(-1, 0), nil}, {mixed, span(1, 4), list(2, 4)},
		{pure(none), span(-line, line), nil}, {pure(all), span(-line, line), list(-line, line)}, {pure(all), span(5, 6), list(5, 6)}, {fields(none, all, 0, 0, nil), span(-line, line), list(0, line)}, {fields(all, none, 0, 0, nil), span(-line, line), list(-line, 0)}, {fields(all, none, 0, 0, nil), span(-1, 0), list(-1, 0)}, {fields(all, none, 0, 0, nil), span(0, 1), nil}, {fields(all, all, -line, line, nil), span(-line, line), nil}, {fields(all, all, 3, 9, list(4, 5, 6, 8)), span(0, 12), list(0, 3, 4, 5, 6, 8, 9, 12)}, {fields(none, all, 3, 9, list(3, 8)), span(0, 12), list(3, 8, 9, 12)},
		{fields(seven, seven, 7, 8, nil), span(0, 15), list(0, 1, 14, 15)}, {fields(seven, seven, 7, 8, nil), span(1, 14), nil}, {fields(two, cycle(4, 0, 1), 7, 7, nil), span(3, 14), list(4, 5, 6, 7, 8, 9, 12, 13)}, {pure(seven), span(-line, -line+14), list(-line+1, -line+2, -line+8, -line+9)}, {pure(seven), span(line-7, line), list(line-1, line)}, {pure(cycle(7, 0, 2, 6, 7)), span(-3, 15), list(-1, 2, 6, 9, 13, 15)}, {fields(none, none, -line, line, list(-line, -line+1, line-1, line)), span(-line, line), list(-line, -line+1, line-1, line)},
	} {
		if l, e := Window(c.s, c.in); e != api.OK || !slices.Equal(l, c.want) {
			t.Errorf("Window(%v, %v) = %v, %d; want %v", c.s, c.in, l, e, c.want)
		}
	}
}

func TestP146ByDefinition(t *testing.T) {
	placed(func(s api.Set) {
		for from := max(-line, s.From-8); from < min(line, s.To+8); from++ {
			for _, length := range []int{1, 2, 3, 7, 12, 23} {
				in := span(from, min(line, from+length))
				want := runsOf(in, func(x int) bool { return contains(s, x) })
				if l, e := Window(s, in); e != api.OK || !slices.Equal(l, want) {
					t.Errorf("Window(%v, %v) = %v, %d; want %v", s, in, l, e, want)
				}
			}
		}
	})
}

// TestP146Full has as many runs as there may be, and one more, on the left, between, on the right, and over all.
func TestP146Full(t *testing.T) {
	two, rows := cycle(2, 0, 1), must(t, none, none, 0, 2*full, row(full, 0, 2, 1))
	for i, c := range []struct {
		s  api.Set
		in api.Span
		n  int
	}{
		{pure(two), span(0, 2*full), full}, {pure(two), span(0, 2*full-1), full}, {pure(two), span(0, 2*full+1), full + 1}, {pure(two), span(-1, 2*full), full}, {pure(two), span(-2, 2*full), full + 1}, {pure(two), span(0, 4002), full + 1}, {pure(two), span(-line, line), full + 1},
		{rows, span(-line, line), full}, {rows, span(1, line), full - 1}, {must(t, none, two, 2*full, 2*full, row(0, 0, 0, 0)), span(-line, 4*full-1), full}, {must(t, none, two, 0, 0, nil), span(-line, 2*full), full}, {must(t, none, two, 0, 0, nil), span(-line, 2*full+1), full + 1}, {must(t, two, none, 0, 0, nil), span(-2*full, line), full}, {must(t, two, none, 0, 0, nil), span(-2*full-2, line), full + 1},
		// With two spans that are one run.
		{must(t, two, two, 0, 3, list(0, 3)), span(0, 2*full+2), full}, {must(t, two, two, 0, 3, list(0, 3)), span(0, 2*full+3), full + 1}, {must(t, none, cycle(2, 1, 2), 0, 2*full-1, row(full, 0, 2, 1)), span(-5, 2*full), full}, {must(t, none, cycle(2, 1, 2), 0, 2*full-1, row(full, 0, 2, 1)), span(-5, 2*full+2), full + 1}, {must(t, cycle(2, 1, 2), none, 0, 2*full-1, row(full, 0, 2, 1)), span(-1, 5*full), full}, {must(t, cycle(2, 1, 2), none, 0, 2*full-1, row(full, 0, 2, 1)), span(-3, 5*full), full + 1},
		{must(t, all, none, 1, 2*full+1, row(full, 2, 2, 1)), span(0, 5*full), full + 1}, {must(t, all, none, 1, 2*full+1, row(full, 2, 2, 1)), span(1, 5*full), full}, {must(t, none, all, 0, 2*full, row(full, 0, 2, 1)), span(0, 5*full), full + 1}, {must(t, none, all, 0, 2*full, row(full, 0, 2, 1)), span(0, 2*full), full},
		{pure(cycle(line/(full-1), 0, 5)), span(0, line), full}, {pure(cycle(line/full, 0, 5)), span(0, line), full + 1},
	} {
		l, e := Window(c.s, c.in)
		if c.n > full && (e != api.ErrFull || len(l) != 0) || c.n <= full && (e != api.OK || len(l) != c.n) {
			t.Errorf("%d: Window(%s, %v) has %d spans, %d; want %d", i, brief(c.s), c.in, len(l), e, c.n)
		}
	}
}

func TestP146Invalid(t *testing.T) {
	check := func(s api.Set, in api.Span) {
		if l, e := Window(s, in); e != api.ErrArg || len(l) != 0 {
			t.Errorf("Window(%s, %v) = %s, %d", brief(s), in, brief(l), e)
		}
	}
	for _, bad := range noSets() {
		for _, in := range append(noSpans, span(0, 1), span(-line, line)) {
			check(bad, in)
		}
	}
	for _, in := range noSpans {
		for _, s := range someSets() {
			check(s, in)
		}
	}
}

// missing is what Next, Previous and Change are said to return where there is no number.
const missing = math.MinInt

// checkNumber compares what one of these functions returns.
func checkNumber(t *testing.T, name string, s api.Set, x, got int, ok bool, want int) {
	t.Helper()
	if want == missing && (ok || got != 0) || want != missing && (!ok || got != want) {
		t.Errorf("%s(%s, %d) = %d, %t; want %d", name, brief(s), x, got, ok, want)
	}
}

// checkNumbers compares what all of them return.
func checkNumbers(t *testing.T, s api.Set, x, next, previous, change int) {
	t.Helper()
	n, ok := Next(s, x)
	checkNumber(t, "Next", s, x, n, ok, next)
	n, ok = Previous(s, x)
	checkNumber(t, "Previous", s, x, n, ok, previous)
	n, ok = Change(s, x)
	checkNumber(t, "Change", s, x, n, ok, change)
}

func TestP147Examples(t *testing.T) {
	two, seven := cycle(2, 0, 1), cycle(7, 0, 1)
	mixed, hole := fields(two, two, 3, 6, list(3, 6)), fields(seven, seven, 7, 8, nil)
	from0, to0, one := fields(none, all, 0, 0, nil), fields(all, none, 0, 0, nil), fields(none, none, 5, 6, list(5, 6))
	for _, c := range []struct {
		s                         api.Set
		x, next, previous, change int
	}{
		{mixed, 7, 8, 6, 8}, {mixed, -1, 0, -2, 0}, {mixed, 2, 2, 2, 7}, {mixed, 1, 2, 0, 2}, {mixed, 3, 3, 3, 7}, {mixed, 6, 6, 6, 7}, {mixed, 5, 5, 5, 7}, {mixed, 8, 8, 8, 9}, {hole, 1, 14, 0, 14}, {hole, 0, 0, 0, 1}, {hole, 7, 14, 0, 14}, {hole, 13, 14, 0, 14}, {hole, -1, 0, -7, 0}, {hole, 14, 14, 14, 15},
		{pure(none), 0, missing, missing, missing}, {pure(none), line, missing, missing, missing}, {pure(all), 0, 0, 0, missing}, {pure(all), line, line, line, missing}, {pure(all), -line, -line, -line, missing}, {pure(two), line, line, line, missing}, {pure(two), line - 1, line, line - 2, line}, {pure(two), -line, -line, -line, -line + 1}, {pure(two), -line + 1, -line + 2, -line, -line + 2}, {pure(cycle(2, 1, 2)), line, missing, line - 1, missing}, {pure(cycle(2, 1, 2)), -line, -line + 1, missing, -line + 1}, {pure(cycle(2, 1, 2)), line - 1, line - 1, line - 1, line},
		{from0, -1, 0, missing, 0}, {from0, 0, 0, 0, missing}, {from0, -line, 0, missing, 0}, {from0, line, line, line, missing}, {to0, -1, -1, -1, 0}, {to0, 0, missing, -1, missing}, {to0, -line, -line, -line, 0}, {to0, line, missing, -1, missing}, {one, 4, 5, missing, 5}, {one, 5, 5, 5, 6}, {one, 6, missing, 5, missing}, {one, -line, 5, missing, 5}, {one, line, missing, 5, missing},
		{fields(none, all, line, line, nil), -line, line, missing, line}, {fields(none, all, line, line, nil), line - 1, line, missing, line}, {fields(none, all, line, line, nil), line, line, line, missing}, {fields(none, all, -line, -line, nil), -line, -line, -line, missing}, {fields(all, none, -line, -line, nil), -line, missing, missing, missing}, {fields(all, none, -line, -line, nil), line, missing, missing, missing}, {fields(all, none, line, line, nil), -line, -line, -line, line}, {fields(all, none, line, line, nil), line, missing, line - 1, missing}, {fields(all, none, -line+1, -line+1, nil), line, missing, -line, missing}, {fields(none, none, line-1, line, list(line-1, line)), -line, line - 1, missing, line - 1}, {fields(none, none, line-1, line, list(line-1, line)), line - 1, line - 1, line - 1, line}, {fields(none, none, line-1, line, list(line-1, line)), line, missing, line - 1, missing}, {fields(none, none, -line, line, list(-line, line)), -line, -line, -line, line}, {fields(all, all, -line, line, nil), -line, line, missing, line}, {fields(all, all, -line, line, nil), line, line, line, missing}, {fields(all, all, -line, line, nil), 0, line, missing, line},
		{pure(cycle(most, 0, 1)), 0, 0, 0, 1}, {pure(cycle(most, 0, 1)), 1, most, 0, most}, {pure(cycle(most, 0, 1)), line, missing, line - line%most, missing}, {pure(cycle(most, 0, 1)), -line, -line + line%most, missing, -line + line%most}, {pure(cycle(7, 0, 2, 6, 7)), 0, 0, 0, 2}, {pure(cycle(7, 0, 2, 6, 7)), 5, 6, 1, 6}, {pure(cycle(7, 0, 2, 6, 7)), 6, 6, 6, 9}, {pure(cycle(7, 0, 2, 6, 7)), -1, -1, -1, 2}, {pure(cycle(7, 1, 7)), 0, 1, -1, 1}, {pure(cycle(7, 1, 7)), 6, 6, 6, 7}, {fields(all, all, 3, 9, list(4, 5, 6, 8)), 2, 2, 2, 3}, {fields(all, all, 3, 9, list(4, 5, 6, 8)), 3, 4, 2, 4}, {fields(all, all, 3, 9, list(4, 5, 6, 8)), 8, 9, 7, 9}, {fields(all, all, 3, 9, list(4, 5, 6, 8)), 9, 9, 9, missing},
	} {
		checkNumbers(t, c.s, c.x, c.next, c.previous, c.change)
	}
}

// TestP147ByDefinition searches, integer by integer, as far as small sets are not known to have nothing more.
func TestP147ByDefinition(t *testing.T) {
	placed(func(s api.Set) {
		low, high := max(-line, s.From-20), min(line, s.To+20)
		for x := max(-line, s.From-9); x <= min(line, s.To+9); x++ {
			next, previous, change := x, x, x+1
			for next <= high && !contains(s, next) {
				next++
			}
			for previous >= low && !contains(s, previous) {
				previous--
			}
			for change <= high && contains(s, change-1) == contains(s, change) {
				change++
			}
			if next > high {
				next = missing
			}
			if previous < low {
				previous = missing
			}
			if change > high {
				change = missing
			}
			checkNumbers(t, s, x, next, previous, change)
		}
	})
}

// TestP147Wide has small sets with many integers for each one, and places beside all of their ends.
func TestP147Wide(t *testing.T) {
	for _, n := range []int{1000, most / 6} {
		for _, s := range small(cycles(3), -1, 3) {
			big := wide(s, n)
			if conditions(big.Left, big.Right) != api.OK {
				// All integers on one side, and long periods on the other one.
				continue
			}
			for x := -12; x <= 14; x++ {
				next, previous, change := missing, missing, missing
				for y := x + 20; y >= x; y-- {
					if contains(s, y) {
						next = y * n
					}
					if y > x && contains(s, y-1) != contains(s, y) {
						change = y * n
					}
				}
				for y := x - 20; y <= x; y++ {
					if contains(s, y) {
						previous = y*n + n - 1
					}
				}
				for _, d := range []int{0, 1, n / 2, n - 1} {
					if at := x*n + d; contains(s, x) {
						checkNumbers(t, big, at, at, at, change)
					} else {
						checkNumbers(t, big, at, next, previous, change)
					}
				}
			}
		}
	}
}

func TestP147Invalid(t *testing.T) {
	for _, bad := range noSets() {
		for _, x := range append(strange, 5, 6) {
			checkNumbers(t, bad, x, missing, missing, missing)
		}
	}
	for _, s := range someSets() {
		for _, x := range strange {
			if x < -line || x > line {
				checkNumbers(t, s, x, missing, missing, missing)
			}
		}
	}
}
