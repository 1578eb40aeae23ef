package periodic

import (
	"math"
	"slices"
	"testing"

	"civiltime/api"
	"civiltime/interval"
)

// noSpans are no valid spans.
var noSpans = []api.Span{
	span(0, 0), span(1, 1), span(2, 1), span(line, line), span(-line, -line), span(line, -line), span(0, line+1), span(-line-1, 0), span(-line-1, line+1), span(line, line+1), span(-line-1, -line),
	span(math.MinInt, math.MaxInt), span(math.MaxInt, math.MinInt), span(math.MinInt, 0), span(0, math.MaxInt), span(math.MinInt, math.MinInt), span(math.MaxInt, math.MaxInt),
}

func TestP135Examples(t *testing.T) {
	p := set(7, 0, 2, 6, 7)
	for _, c := range []struct {
		p    api.Periodic
		in   api.Span
		want []api.Span
		n    int
	}{
		{p, span(-3, 15), list(-1, 2, 6, 9, 13, 15), 8}, {p, span(0, 7), list(0, 2, 6, 7), 3}, {p, span(0, 14), list(0, 2, 6, 9, 13, 14), 6}, {p, span(-7, 0), list(-7, -5, -1, 0), 3}, {p, span(2, 6), nil, 0}, {p, span(1, 2), list(1, 2), 1}, {p, span(7, 8), list(7, 8), 1}, {p, span(8, 9), list(8, 9), 1}, {p, span(9, 10), nil, 0}, {p, span(6, 9), list(6, 9), 3}, {p, span(7, 9), list(7, 9), 2}, {p, span(700, 703), list(700, 702), 2},
		{set(1), span(0, 1), nil, 0}, {set(1), span(-line, line), nil, 0}, {set(1, 0, 1), span(0, 1), list(0, 1), 1}, {set(1, 0, 1), span(-5, 9), list(-5, 9), 14}, {set(1, 0, 1), span(-line, line), list(-line, line), 2 * line}, {set(1, 0, 1), span(line-1, line), list(line-1, line), 1},
		{set(2, 0, 1), span(-3, 4), list(-2, -1, 0, 1, 2, 3), 3}, {set(2, 1, 2), span(-3, 4), list(-3, -2, -1, 0, 1, 2, 3, 4), 4}, {set(7, 1, 7), span(0, 14), list(1, 7, 8, 14), 12}, {set(7, 0, 6), span(5, 9), list(5, 6, 7, 9), 3}, {set(7, 0, 3, 4, 7), span(-7, 7), list(-7, -4, -3, 3, 4, 7), 12},
		{set(most, 0, 1), span(0, 1), list(0, 1), 1}, {set(most, 0, 1), span(1, most), nil, 0}, {set(most, 0, 1), span(-most, most+1), list(-most, -most+1, 0, 1, most, most+1), 3}, {set(most, most-1, most), span(-line, -line+most), list(-line+line%most-1, -line+line%most), 1}, {set(7, 0, 1), span(line-7, line), list(line-1, line), 1}, {set(7, 0, 1), span(-line, -line+7), list(-line+1, -line+2), 1}, {set(7, 0, 1, 6, 7), span(-line, -line+7), list(-line, -line+2), 2}, {set(7, 0, 2, 6, 7), span(-line+1, -line+7), list(-line+1, -line+3), 2},
	} {
		if l, e := Window(c.p, c.in); e != api.OK || !slices.Equal(l, c.want) {
			t.Errorf("Window(%v, %v) = %.80v, %d; want %v", c.p, c.in, l, e, c.want)
		}
		if n, e := Count(c.p, c.in); e != api.OK || n != c.n {
			t.Errorf("Count(%v, %v) = %d, %d; want %d", c.p, c.in, n, e, c.n)
		}
	}
}

// window returns the canonical list of the integers of a pattern in a span, and how many they are, integer by integer.
func window(p pattern, in api.Span) (l []api.Span, n int) {
	for x := in.From; x < in.To; x++ {
		if !p.has(x) {
			continue
		}
		n++
		if last := len(l) - 1; last >= 0 && l[last].To == x {
			l[last].To++
		} else {
			l = append(l, span(x, x+1))
		}
	}
	return l, n
}

// TestP135ByDefinition has all patterns and all spans of up to three periods, around 0, far from it, and at both ends of the line.
func TestP135ByDefinition(t *testing.T) {
	patterns(6, func(p pattern) {
		s := p.set()
		for _, start := range []int{-p.cells, 1 << 40, -1 << 40, -line, line - 3*p.cells} {
			for from := start; from < start+2*p.cells; from++ {
				for to := from + 1; to <= start+3*p.cells; to++ {
					want, wantCount := window(p, span(from, to))
					l, e := Window(s, span(from, to))
					n, f := Count(s, span(from, to))
					if e != api.OK || f != api.OK || !slices.Equal(l, want) || n != wantCount {
						t.Errorf("Window(%v, [%d, %d)) = %v, %d, Count = %d, %d; want %v, %d", s, from, to, l, e, n, f, want, wantCount)
					}
				}
			}
		}
	})
}

// TestP135Long has long sets in short spans and in spans of some periods, all compared with the spans of copies of their lists.
func TestP135Long(t *testing.T) {
	for i, p := range someSets() {
		if p.Period < 2 {
			continue
		}
		for _, in := range []api.Span{span(-1, 1), span(0, p.Period), span(-p.Period/3, p.Period/2), span(-p.Period, 0), span(p.Period-1, p.Period+1), span(-2*p.Period/3, 5*p.Period/3), span(5*p.Period-4, 6*p.Period+9), span(-5*p.Period-6, -4*p.Period+1)} {
			var want []api.Span
			n := 0
			for k := -20; k <= 20; k++ {
				for _, s := range p.L {
					part, ok := interval.Meet(in, span(s.From+k*p.Period, s.To+k*p.Period))
					last := len(want) - 1
					switch {
					case !ok:
						continue
					case last >= 0 && want[last].To == part.From:
						want[last].To = part.To
					default:
						want = append(want, part)
					}
					n += part.To - part.From
				}
			}
			wantError := api.OK
			if len(want) > full {
				want, wantError = nil, api.ErrFull
			}
			if l, e := Window(p, in); e != wantError || !slices.Equal(l, want) {
				t.Errorf("Window of the set %d and %v has %d spans, %d; want %d", i, in, len(l), e, len(want))
			}
			if count, e := Count(p, in); e != api.OK || count != n {
				t.Errorf("Count of the set %d and %v = %d, %d; want %d", i, in, count, e, n)
			}
		}
	}
}

// TestP135Full has as many spans as there may be, and one more, also where spans of two periods are one.
func TestP135Full(t *testing.T) {
	long := api.Periodic{Period: 2*full + 1, L: row(full, 0, 2, 1)}
	for i, c := range []struct {
		p  api.Periodic
		in api.Span
		n  int
	}{
		{set(2, 0, 1), span(0, 2*full), full}, {set(2, 0, 1), span(0, 2*full-1), full}, {set(2, 0, 1), span(0, 2*full+1), full + 1}, {set(2, 1, 2), span(0, 2*full+1), full}, {set(2, 1, 2), span(-1, 2*full), full + 1}, {set(7, 0, 2, 6, 7), span(0, 7*(full-1)+6), full}, {set(7, 0, 2, 6, 7), span(0, 7*(full-1)+7), full + 1}, {set(7, 0, 2, 6, 7), span(2, 7*full), full}, {set(7, 0, 2, 6, 7), span(2, 7*full+6), full}, {set(7, 0, 2, 6, 7), span(2, 7*full+7), full + 1}, {set(7, 0, 2, 6, 7), span(-7*full+2, 0), full}, {set(7, 0, 2, 6, 7), span(-7*full+1, 0), full + 1},
		{long, span(0, 2*full+1), full}, {long, span(0, 2*full+2), full + 1}, {long, span(-1, 2*full), full}, {long, span(-3, 2*full), full + 1}, {long, span(1, 2*full+2), full}, {long, span(1, 2*full+4), full + 1}, {long, span(2*full-2, 4*full), full + 1}, {long, span(2*full-2, 4*full-2), full}, {long, span(0, 20*full), full + 1}, {long, span(-line, line), full + 1},
		{set(2, 0, 1), span(-line, line), full + 1}, {set(604800, 0, 5), span(-line, line), full + 1}, {set(line/(full-1), 0, 5), span(0, line), full}, {set(line/full, 0, 5), span(0, line), full + 1},
	} {
		l, e := Window(c.p, c.in)
		if c.n > full && (e != api.ErrFull || len(l) != 0) || c.n <= full && (e != api.OK || len(l) != c.n) {
			t.Errorf("%d: Window has %d spans, %d; want %d", i, len(l), e, c.n)
		}
		if _, e := Count(c.p, c.in); e != api.OK {
			t.Errorf("%d: Count: %d", i, e)
		}
	}
}

// TestP135Line counts on the whole line, which has 2^43 integers: those beyond whole periods of 3 have the remainders 2 and 0, those beyond periods of 7 the remainders 6 and 0.
func TestP135Line(t *testing.T) {
	for _, c := range []struct {
		p api.Periodic
		n int
	}{
		{set(1), 0}, {set(1, 0, 1), 8796093022208}, {set(2, 0, 1), 4398046511104}, {set(2, 1, 2), 4398046511104}, {set(3, 0, 1), 2932031007403}, {set(3, 1, 2), 2932031007402}, {set(7, 0, 1), 1256584717459}, {set(7, 0, 2, 6, 7), 3769754152376}, {set(1<<20, 0, 1), 8388608}, {set(most, 0, 1), 697}, {set(most, 1, most), 8796093022208 - 697},
	} {
		n, e := Count(c.p, span(-line, line))
		if e != api.OK || n != c.n {
			t.Errorf("Count(%v) on the line = %d, %d; want %d", c.p, n, e, c.n)
		}
	}
}

func TestP135Invalid(t *testing.T) {
	check := func(p api.Periodic, in api.Span) {
		l, e := Window(p, in)
		if n, f := Count(p, in); e != api.ErrArg || f != api.ErrArg || len(l) != 0 || n != 0 {
			t.Errorf("Window(%.80v, %v) = %.80v, %d, Count = %d, %d", p, in, l, e, n, f)
		}
	}
	for _, bad := range noSets() {
		for _, in := range append(noSpans, span(0, 1), span(-line, line)) {
			check(bad, in)
		}
	}
	for _, in := range noSpans {
		for _, p := range someSets() {
			check(p, in)
		}
	}
}

func TestP136Examples(t *testing.T) {
	p := set(7, 0, 2, 6, 7)
	for _, c := range []struct {
		p       api.Periodic
		x, next int
	}{
		{p, 0, 0}, {p, 1, 1}, {p, 2, 6}, {p, 6, 6}, {p, -5, -1}, {p, -1, -1}, {p, -7, -7}, {p, 8, 8}, {p, 9, 13}, {p, 705, 706}, {set(7, 2, 3), 3, 9}, {set(7, 2, 3), 6, 9}, {set(7, 2, 3), -4, 2}, {set(7, 2, 3), -5, -5}, {set(7, 2, 3), 0, 2},
		{set(1, 0, 1), line, line}, {set(1, 0, 1), -line, -line}, {set(1, 0, 1), 5, 5}, {set(2, 0, 1), line, line}, {set(2, 1, 2), line, line + 1}, {set(7, 0, 1), line, line + 6}, {set(7, 6, 7), -line, -line}, {set(7, 5, 6), -line, -line + 6}, {set(most, 0, 1), 0, 0}, {set(most, 0, 1), 1, most}, {set(most, 0, 1), -1, 0}, {set(most, most-1, most), 0, most - 1}, {set(most, most-1, most), -1, -1}, {set(most, 0, 1), line, line - line%most + most}, {set(most, 0, 1), -line, -line + line%most},
	} {
		if next, ok := Next(c.p, c.x); next != c.next || !ok {
			t.Errorf("Next(%v, %d) = %d, %t; want %d", c.p, c.x, next, ok, c.next)
		}
	}
}

// TestP136ByDefinition has all patterns, around 0, far from it, and at both ends of the line.
func TestP136ByDefinition(t *testing.T) {
	patterns(10, func(p pattern) {
		for _, start := range []int{-p.cells - 1, 1 << 40, -1 << 40, -line, line - 2*p.cells - 2} {
			for x := start; x <= start+2*p.cells+2; x++ {
				want := x
				for p.bits != 0 && !p.has(want) {
					want++
				}
				if p.bits == 0 {
					want = 0
				}
				if next, ok := Next(p.set(), x); next != want || ok != (p.bits != 0) {
					t.Errorf("Next(%v, %d) = %d, %t; want %d", p.set(), x, next, ok, want)
				}
			}
		}
	})
}

// TestP136Wide has patterns with wide cells, and each place where a cell begins, and both places beside it.
func TestP136Wide(t *testing.T) {
	wide(6, func(p pattern) {
		for c := -p.cells; c <= 2*p.cells; c++ {
			for _, x := range []int{c*p.width - 1, c * p.width, c*p.width + 1, c*p.width + p.width/2} {
				want := x
				for p.bits != 0 && !p.has(want) {
					// The next cell begins.
					want += p.width - remainder(want, p.width)
				}
				if p.bits == 0 {
					want = 0
				}
				if next, ok := Next(p.set(), x); next != want || ok != (p.bits != 0) {
					t.Errorf("Next(%v, %d) = %d, %t; want %d", p.set(), x, next, ok, want)
				}
			}
		}
	})
}

func TestP136None(t *testing.T) {
	check := func(p api.Periodic, x int) {
		if next, ok := Next(p, x); next != 0 || ok {
			t.Errorf("Next(%.80v, %d) = %d, %t", p, x, next, ok)
		}
	}
	for _, x := range strange {
		check(set(1), x)
		check(api.Periodic{Period: 1, L: []api.Span{}}, x)
		for _, bad := range noSets() {
			check(bad, x)
		}
		for _, p := range someSets() {
			if x < -line || x > line {
				check(p, x)
			} else if _, ok := Next(p, x); ok != (len(p.L) > 0) {
				t.Errorf("Next(%.80v, %d) is %t", p, x, ok)
			}
		}
	}
}
