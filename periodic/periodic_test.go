package periodic

import (
	"math"
	"slices"
	"testing"

	"civiltime/api"
)

const (
	line = api.MaxLine
	full = api.MaxRuns
	most = api.MaxPeriod
)

// strange are integers at and beyond the bounds of the line, of periods, and of int.
var strange = []int{
	math.MinInt, math.MinInt + 1, math.MinInt + line, -1 << 62, -2 * line, -line - 1, -line, -line + 1, -most - 1, -most, -2, -1,
	0, 1, 2, 3, 7, most - 1, most, most + 1, line - 1, line, line + 1, 2 * line, 1 << 62, math.MaxInt - line, math.MaxInt - 1, math.MaxInt,
}

func span(from, to int) api.Span { return api.Span{From: from, To: to} }

// list returns the spans with the given ends.
func list(ends ...int) []api.Span {
	var l []api.Span
	for i := 0; i < len(ends); i += 2 {
		l = append(l, span(ends[i], ends[i+1]))
	}
	return l
}

// row returns n spans of one width, of which each one begins a step behind the one before.
func row(n, first, step, width int) []api.Span {
	var l []api.Span
	for i := range n {
		l = append(l, span(first+i*step, first+i*step+width))
	}
	return l
}

// join returns one list of several ones.
func join(lists ...[]api.Span) []api.Span { return slices.Concat(lists...) }

// set returns a set by its fields; it is valid only if these are canonical.
func set(period int, ends ...int) api.Periodic {
	return api.Periodic{Period: period, L: list(ends...)}
}

// same reports whether two sets have the same fields.
func same(a, b api.Periodic) bool { return a.Period == b.Period && slices.Equal(a.L, b.L) }

// isZero reports whether a set is the zero value.
func isZero(p api.Periodic) bool { return p.Period == 0 && len(p.L) == 0 }

// remainder returns the remainder of x modulo n, which is not negative.
func remainder(x, n int) int { return (x%n + n) % n }

// pattern is a small set by its definition: the cell c of a period has the integers from c width on, width of them, and is in the set if the bit c is set.
type pattern struct{ cells, bits, width int }

// has reports whether x is in the set.
func (p pattern) has(x int) bool {
	return p.bits>>(remainder(x, p.cells*p.width)/p.width)&1 == 1
}

// spans returns the canonical list of the cells from 0 to n - 1.
func (p pattern) spans(n int) []api.Span {
	var l []api.Span
	for c := range n {
		last := len(l) - 1
		switch {
		case !p.has(c * p.width):
		case last >= 0 && l[last].To == c*p.width:
			l[last].To += p.width
		default:
			l = append(l, span(c*p.width, (c+1)*p.width))
		}
	}
	return l
}

// least returns the number of cells after which the set repeats, by looking at all numbers.
func (p pattern) least() int {
	for n := 1; ; n++ {
		repeats := true
		for c := range n * p.cells {
			repeats = repeats && p.has(c*p.width) == p.has((c+n)*p.width)
		}
		if repeats {
			return n
		}
	}
}

// isWhole reports whether the set has all cells, or none.
func (p pattern) isWhole() bool { return p.bits == 0 || p.bits == 1<<p.cells-1 }

// set returns the valid form.
func (p pattern) set() api.Periodic {
	switch {
	case p.bits == 0:
		return set(1)
	case p.isWhole():
		return set(1, 0, 1)
	}
	n := p.least()
	return api.Periodic{Period: n * p.width, L: p.spans(n)}
}

// patterns calls a function with all patterns of periods up to most cells, with single integers as cells.
func patterns(most int, see func(p pattern)) {
	for cells := 1; cells <= most; cells++ {
		for bits := range 1 << cells {
			see(pattern{cells, bits, 1})
		}
	}
}

// wide calls a function with all patterns of periods up to most cells: with cells of 1, of 1000, and as wide as they may be.
func wide(cells int, see func(p pattern)) {
	patterns(cells, func(p pattern) {
		for _, width := range []int{1, 1000, most / p.cells} {
			see(pattern{p.cells, p.bits, width})
		}
	})
}

// noSets are sets that are not valid.
func noSets() []api.Periodic {
	sets := []api.Periodic{
		{}, set(0), set(0, 0, 1), set(-1), set(-1, 0, 1), set(-7, 0, 1), set(-7, -7, -6), set(most + 1), set(most+1, 0, 1), set(2 * most), set(math.MinInt), set(math.MaxInt), set(math.MinInt, 0, 1), set(math.MaxInt, 0, 1), set(math.MinInt, math.MinInt, math.MaxInt),
		set(2), set(7), set(most), set(2, 0, 2), set(7, 0, 7), set(most, 0, most), set(4, 0, 1, 2, 3), set(4, 1, 2, 3, 4), set(6, 0, 2, 3, 5), set(6, 0, 1, 2, 4, 5, 6), set(14, 0, 2, 7, 9), set(14, 0, 1, 6, 8, 13, 14), set(9, 1, 2, 4, 5, 7, 8), set(most, 0, 1, most/2, most/2+1), set(most, 0, 1, most/2-1, most/2+1, most-1, most),
		set(1, 0, 2), set(1, -1, 0), set(1, -1, 1), set(1, 1, 2), set(7, 6, 8), set(7, 7, 8), set(7, -1, 1), set(7, -2, -1), set(7, 0, 8), set(7, -1, 8), set(7, 0, 1, 6, 8), set(7, -1, 1, 3, 4), set(7, 0, 1, 8, 9), set(most, most, most+1), set(most, most-1, most+1), set(7, 0, line), set(7, -line, line), set(most, 5, line+1), set(7, math.MinInt, math.MaxInt), set(7, 0, math.MaxInt),
		set(7, 0, 0), set(7, 3, 3), set(7, 3, 2), set(7, 7, 7), set(7, 0, 1, 1, 2), set(7, 0, 3, 2, 4), set(7, 2, 3, 0, 1), set(7, 0, 1, 0, 1), set(7, 0, 1, 3, 3), set(7, 3, 3, 5, 6), set(7, 0, 4, 5, 5), set(7, math.MaxInt, math.MinInt),
		{Period: most, L: row(full+1, 0, 3, 1)}, {Period: most, L: row(full+1, 5, 7, 3)}, {Period: 4*full + 1, L: row(2*full, 0, 2, 1)}, {Period: 2 * full, L: row(full, 0, 2, 1)}, {Period: 3 * full, L: row(full, 1, 3, 1)}, {Period: 4 * full, L: join(list(0, 1), row(full-1, 3, 4, 2), list(4*full-1, 4*full))},
	}
	return append(sets, api.Periodic{Period: most, L: row(full, 0, 1, 1)}, api.Periodic{Period: 2*full - 2, L: row(full, 0, 2, 1)})
}

// someSets are valid sets of all kinds.
func someSets() []api.Periodic {
	return []api.Periodic{
		set(1), set(1, 0, 1), set(2, 0, 1), set(2, 1, 2), set(3, 0, 1), set(3, 0, 2), set(6, 0, 1, 2, 5), set(7, 0, 2), set(7, 5, 7), set(7, 0, 1, 6, 7), set(4, 0, 1, 3, 4), set(24, 9, 17), set(168, 0, 120), set(168, 9, 17, 33, 41, 57, 65, 81, 89, 105, 113), set(86400, 32400, 61200), set(604800, 0, 432000),
		set(1<<20, 0, 1), set(1<<20, 0, 1, 1<<20-1, 1<<20), set(most, 0, 1), set(most, most-1, most), set(most, 0, most-1), set(most, 1, most), set(most, 0, 1, most-1, most), set(most, 0, most/2), set(most-1, 0, 1), set(most-1, 5, 6, 9, most-7),
		{Period: 2*full + 1, L: row(full, 0, 2, 1)}, {Period: 2*full + 1, L: row(full, 1, 2, 1)}, {Period: 2*full + 7, L: row(full, 1, 2, 1)}, {Period: most, L: row(full, 3, most/full, 17)}, {Period: most, L: row(full-1, 0, 9, 8)}, {Period: 3 * full, L: join(list(0, 2), row(full-1, 4, 3, 1))}, {Period: 4*full + 1, L: join(list(0, 1), row(full-2, 3, 4, 2), list(4*full, 4*full+1))},
	}
}

func TestP131Valid(t *testing.T) {
	for i, p := range someSets() {
		if !Valid(p) {
			t.Errorf("Valid of the set %d, %.80v, is false", i, p)
		}
	}
	for i, p := range noSets() {
		if Valid(p) {
			t.Errorf("Valid of the set %d, %.80v, is true", i, p)
		}
	}
	if !Valid(api.Periodic{Period: 1, L: []api.Span{}}) {
		t.Error("the empty set with an empty list is not valid")
	}
}

// TestP131ByDefinition has all patterns, in all periods that they have.
func TestP131ByDefinition(t *testing.T) {
	wide(12, func(p pattern) {
		if !Valid(p.set()) {
			t.Errorf("Valid(%v) is false", p.set())
		}
		given := api.Periodic{Period: p.cells * p.width, L: p.spans(p.cells)}
		if want := same(given, p.set()); Valid(given) != want {
			t.Errorf("Valid(%v) is %t", given, !want)
		}
	})
}

// TestP131TwoSpans has all lists of one and two spans around small periods, also of such that are no valid spans.
func TestP131TwoSpans(t *testing.T) {
	for period := -1; period <= 5; period++ {
		for a := -1; a <= 6; a++ {
			for b := -1; b <= 6; b++ {
				want := 0 <= a && a < b && b <= period && (b-a < period || period == 1)
				if p := set(period, a, b); Valid(p) != want {
					t.Errorf("Valid(%v) is %t", p, !want)
				}
				for c := -1; c <= 6; c++ {
					for d := -1; d <= 6; d++ {
						want := 0 <= a && a < b && b < c && c < d && d <= period
						if period == 4 && a+2 == c && b+2 == d {
							want = false
						}
						if p := set(period, a, b, c, d); Valid(p) != want {
							t.Errorf("Valid(%v) is %t", p, !want)
						}
					}
				}
			}
		}
	}
}

// TestP131Repeated has each set two, three, and more times in a longer period, also with one end elsewhere.
func TestP131Repeated(t *testing.T) {
	for i, p := range someSets() {
		for _, times := range []int{2, 3, 5, 7, 64, 100} {
			if len(p.L) == 0 || p.Period > most/times || len(p.L)*times > full || p.Period == 1 {
				continue
			}
			l, e := Window(p, span(0, p.Period*times))
			long := api.Periodic{Period: p.Period * times, L: l}
			if e != api.OK || Valid(long) {
				t.Errorf("the set %d, %d times, is valid", i, times)
			}
			if l[0].To > l[0].From+1 {
				l[0].To--
				if !Valid(long) {
					t.Errorf("the set %d, %d times, is not valid without one integer", i, times)
				}
			}
		}
	}
}

func TestP131Has(t *testing.T) {
	p := set(7, 0, 2, 6, 7)
	for x := -30; x <= 30; x++ {
		want := slices.Contains([]int{0, 1, 6}, remainder(x, 7))
		if Has(p, x) != want {
			t.Errorf("Has(%v, %d) is %t", p, x, !want)
		}
	}
	wide(8, func(p pattern) {
		period := p.cells * p.width
		for _, x := range strange {
			if Has(p.set(), x) != p.has(x) {
				t.Errorf("Has(%v, %d) is %t", p.set(), x, !p.has(x))
			}
		}
		for _, start := range []int{-3 * period, -period, 0, period, 77 * period} {
			for c := range p.cells {
				for _, x := range []int{start + c*p.width, start + c*p.width + p.width/2, start + (c+1)*p.width - 1} {
					if Has(p.set(), x) != p.has(x) {
						t.Errorf("Has(%v, %d) is %t", p.set(), x, !p.has(x))
					}
				}
			}
		}
	})
	for _, p := range noSets() {
		for _, x := range append(strange, -6, 4, 5, 6) {
			if Has(p, x) {
				t.Errorf("Has(%.80v, %d)", p, x)
			}
		}
	}
}

func TestP131Equal(t *testing.T) {
	sets := someSets()
	for i, a := range sets {
		for j, b := range sets {
			b.L = slices.Clone(b.L)
			if Equal(a, b) != (i == j) {
				t.Errorf("Equal of the sets %d and %d is %t", i, j, i != j)
			}
		}
		for _, b := range noSets() {
			if Equal(a, b) || Equal(b, a) {
				t.Errorf("Equal of the set %d and %.80v", i, b)
			}
		}
	}
	for _, a := range noSets() {
		if Equal(a, a) {
			t.Errorf("Equal of %.80v and itself", a)
		}
	}
	if empty := (api.Periodic{Period: 1, L: []api.Span{}}); !Equal(empty, set(1)) || !Equal(set(1), empty) {
		t.Error("nil and an empty list are not equal")
	}
	for _, b := range []api.Periodic{set(8, 0, 1, 3, 5), set(7, 0, 2, 3, 5), set(7, 0, 1, 2, 5), set(7, 0, 1, 3, 6), set(7, 0, 1), set(7, 3, 5), set(7, 0, 1, 3, 5, 6, 7)} {
		if a := set(7, 0, 1, 3, 5); Equal(a, b) || Equal(b, a) {
			t.Errorf("Equal(%v, %v)", a, b)
		}
	}
}

func TestP132Examples(t *testing.T) {
	for _, c := range []struct {
		period int
		l      []api.Span
		want   api.Periodic
	}{
		{14, list(0, 2, 7, 9), set(7, 0, 2)}, {14, list(7, 9, 0, 2), set(7, 0, 2)}, {14, list(0, 2, 7, 9, 14, 16, -7, -5), set(7, 0, 2)}, {14, list(0, 2, 7, 9, 9, 10), set(14, 0, 2, 7, 10)}, {14, list(13, 15, 6, 8), set(7, 0, 1, 6, 7)},
		{7, nil, set(1)}, {7, []api.Span{}, set(1)}, {1, nil, set(1)}, {most, nil, set(1)}, {1, list(5, 6), set(1, 0, 1)}, {1, list(-line, -line+1), set(1, 0, 1)}, {7, list(3, 10), set(1, 0, 1)}, {7, list(3, 9), set(7, 0, 2, 3, 7)}, {7, list(-line, line), set(1, 0, 1)}, {most, list(-line, line), set(1, 0, 1)}, {most, list(5, most+5), set(1, 0, 1)}, {most, list(5, most+4), set(most, 0, 4, 5, most)}, {most, list(5, most), set(most, 5, most)}, {most, list(0, most), set(1, 0, 1)},
		{10, list(0, 5, 5, 10), set(1, 0, 1)}, {10, list(5, 15), set(1, 0, 1)}, {10, list(5, 12, 12, 15), set(1, 0, 1)}, {10, list(3, 5, 95, 103, 1005, 1007, 7, 8), set(1, 0, 1)}, {10, list(8, 13, 2, 4), set(10, 0, 4, 8, 10)}, {10, list(8, 13, 1, 2, 3, 5, 7, 8), set(10, 0, 5, 7, 10)}, {10, list(8, 10, 0, 1), set(10, 0, 1, 8, 10)}, {10, list(9, 10, 4, 5), set(5, 4, 5)}, {10, list(4, 6, 9, 11), set(5, 0, 1, 4, 5)}, {10, list(0, 1, 2, 3, 4, 5, 6, 7, 8, 9), set(2, 0, 1)}, {10, list(1, 2, 3, 4, 5, 6, 7, 8, 9, 10), set(2, 1, 2)},
		{7, list(-line, -line+1), set(7, 6, 7)}, {7, list(line-1, line), set(7, 0, 1)}, {7, list(-1, 1), set(7, 0, 1, 6, 7)}, {7, list(-8, -6), set(7, 0, 1, 6, 7)}, {7, list(6, 8), set(7, 0, 1, 6, 7)}, {7, list(-7, -6), set(7, 0, 1)},
		{2 * full, row(full, 0, 2, 1), set(2, 0, 1)}, {full, row(full, 0, 1, 1), set(1, 0, 1)}, {full, row(full, -line, 1, 1), set(1, 0, 1)}, {7, row(full, 5, 7, 1), set(7, 5, 6)}, {7 * full, row(full, 5, 7, 3), set(7, 0, 1, 5, 7)}, {5 * full, row(full, -3, -5, 4), set(5, 0, 1, 2, 5)},
	} {
		if p, e := Of(c.period, c.l); e != api.OK || !same(p, c.want) {
			t.Errorf("Of(%d, %.80v) = %v, %d; want %v", c.period, c.l, p, e, c.want)
		}
	}
}

// bitsOf returns the pattern of the remainders of the integers of spans, one after the other.
func bitsOf(period int, l []api.Span) pattern {
	p := pattern{period, 0, 1}
	for _, s := range l {
		for x := s.From; x < s.To; x++ {
			p.bits |= 1 << remainder(x, period)
		}
	}
	return p
}

// TestP132ByDefinition has all lists of one and two spans around small periods, and others of three.
func TestP132ByDefinition(t *testing.T) {
	for period := 1; period <= 8; period++ {
		var spans []api.Span
		for from := -period - 2; from <= period+2; from++ {
			for length := 1; length <= period+1; length++ {
				spans = append(spans, span(from, from+length))
			}
		}
		check := func(l ...api.Span) {
			if p, e := Of(period, l); e != api.OK || !same(p, bitsOf(period, l).set()) {
				t.Errorf("Of(%d, %v) = %v, %d; want %v", period, l, p, e, bitsOf(period, l).set())
			}
		}
		for i, a := range spans {
			check(a)
			for j, b := range spans {
				check(a, b)
				check(a, b, spans[(i*11+j*5)%len(spans)])
			}
		}
	}
}

// TestP132Patterns has the spans of all patterns, in order and backwards, each one moved by another number of periods, and in multiples of the period.
func TestP132Patterns(t *testing.T) {
	wide(12, func(p pattern) {
		period := p.cells * p.width
		for times := 1; times <= 3 && period*times <= most; times++ {
			l := p.spans(p.cells * times)
			for i := range l {
				far := period * times * (i*i%7 - 3)
				l[i] = span(l[i].From+far, l[i].To+far)
			}
			back := slices.Clone(l)
			slices.Reverse(back)
			for _, given := range [][]api.Span{l, back, join(l, back)} {
				if s, e := Of(period*times, given); e != api.OK || !same(s, p.set()) {
					t.Errorf("Of(%d, %v) = %v, %d; want %v", period*times, given, s, e, p.set())
				}
			}
		}
	})
}

// TestP132Full has as many spans as there may be, or one more, and forms with as many, or one more.
func TestP132Full(t *testing.T) {
	for i, c := range []struct {
		period int
		l      []api.Span
		want   api.Periodic
		e      api.Errno
	}{
		{most, row(full, 0, 3, 1), api.Periodic{Period: most, L: row(full, 0, 3, 1)}, api.OK}, {most, row(full+1, 0, 3, 1), api.Periodic{}, api.ErrFull}, {7, row(full+1, 0, 7, 1), api.Periodic{}, api.ErrFull}, {7, row(full+1, 0, 0, 1), api.Periodic{}, api.ErrFull}, {1, row(full+1, 0, 1, 1), api.Periodic{}, api.ErrFull}, {2 * full, row(5*full, 0, 2, 1), api.Periodic{}, api.ErrFull},
		// The last span goes on at 0: as one more span, in the first one, or before it.
		{8 * full, append(row(full-1, 3, 4, 2), span(8*full-1, 8*full+1)), api.Periodic{}, api.ErrFull}, {8 * full, append(row(full-2, 3, 4, 2), span(8*full-1, 8*full+1)), api.Periodic{Period: 8 * full, L: join(list(0, 1), row(full-2, 3, 4, 2), list(8*full-1, 8*full))}, api.OK}, {8 * full, append(row(full-1, 0, 4, 2), span(8*full-1, 8*full+1)), api.Periodic{Period: 8 * full, L: join(row(full-1, 0, 4, 2), list(8*full-1, 8*full))}, api.OK}, {8 * full, append(row(full-1, 1, 4, 2), span(8*full-1, 8*full+1)), api.Periodic{Period: 8 * full, L: join(list(0, 3), row(full-2, 5, 4, 2), list(8*full-1, 8*full))}, api.OK}, {8 * full, append(row(full-1, 3, 4, 2), span(-1, 1)), api.Periodic{}, api.ErrFull},
		// There would be one span too many, but in the least period there are fewer.
		{4 * full, row(full, 3, 4, 2), set(4, 0, 1, 3, 4), api.OK}, {4 * full, row(full, -1, 4, 2), set(4, 0, 1, 3, 4), api.OK}, {6 * full, join(row(full/2, 2, 12, 1), row(full/2, 11, 12, 2)), set(12, 0, 1, 2, 3, 11, 12), api.OK},
		{8 * full, join(row(full/2, 3, 4, 2), row(full/2, 4*full+3, 4, 2)), api.Periodic{Period: 4 * full, L: row(full/2, 3, 4, 2)}, api.OK},
	} {
		if p, e := Of(c.period, c.l); e != c.e || !same(p, c.want) {
			t.Errorf("%d: Of = %.80v, %d; want %.80v, %d", i, p, e, c.want, c.e)
		}
	}
}

func TestP132Invalid(t *testing.T) {
	for _, period := range strange {
		for _, l := range [][]api.Span{nil, list(0, 1), list(-5, 5), row(full+1, 0, 2, 1)} {
			if 1 <= period && period <= most {
				continue
			}
			if p, e := Of(period, l); e != api.ErrArg || !isZero(p) {
				t.Errorf("Of(%d, %.80v) = %.80v, %d", period, l, p, e)
			}
		}
	}
	for _, bad := range []api.Span{span(0, 0), span(3, 3), span(3, 2), span(0, line+1), span(-line-1, 0), span(line, line), span(line, line+1), span(-line-1, line), span(math.MinInt, math.MaxInt), span(math.MaxInt, math.MinInt), span(math.MaxInt, math.MaxInt)} {
		for _, period := range []int{1, 7, 2 * full, most, 0, most + 1} {
			for _, l := range [][]api.Span{list(), list(0, 1), row(full-1, 0, 2, 1), row(full, 0, 2, 1), row(2*full, 0, 2, 1)} {
				for _, given := range [][]api.Span{append(slices.Clone(l), bad), append([]api.Span{bad}, l...)} {
					if p, e := Of(period, given); e != api.ErrArg || !isZero(p) {
						t.Errorf("Of(%d, %.80v) = %.80v, %d", period, given, p, e)
					}
				}
			}
		}
	}
}
