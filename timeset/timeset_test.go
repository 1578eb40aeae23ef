package timeset

import (
	"fmt"
	"math"
	"slices"
	"testing"

	"civiltime/api"
	"civiltime/periodic"
)

const (
	line = api.MaxLine
	full = api.MaxRuns
	most = api.MaxPeriod
)

// strange are integers at and beyond the bounds of the line, of periods, and of int.
var strange = []int{
	math.MinInt, math.MinInt + 1, math.MinInt + line, -1 << 62, -2 * line, -line - 1, -line, -line + 1, -most, -2, -1,
	0, 1, 2, 3, 7, most - 1, most, most + 1, line - 1, line, line + 1, 2 * line, 1 << 62, math.MaxInt - line, math.MaxInt - 1, math.MaxInt,
}

var (
	none = cycle(1)
	all  = cycle(1, 0, 1)
)

// brief returns the beginning of the text of a value.
func brief(v any) string {
	text := fmt.Sprint(v)
	return text[:min(len(text), 120)]
}

func span(from, to int) api.Span { return api.Span{From: from, To: to} }

// list returns the spans with the given ends.
func list(ends ...int) []api.Span {
	var l []api.Span
	for i := 0; i < len(ends); i += 2 {
		l = append(l, span(ends[i], ends[i+1]))
	}
	return l
}

// row returns n spans of one width, of which each one begins a step behind the one before.
func row(n, first, step, width int) []api.Span {
	var l []api.Span
	for i := range n {
		l = append(l, span(first+i*step, first+i*step+width))
	}
	return l
}

// join returns one list of several ones.
func join(lists ...[]api.Span) []api.Span { return slices.Concat(lists...) }

// cycle returns a periodic set by its fields.
func cycle(period int, ends ...int) api.Periodic {
	return api.Periodic{Period: period, L: list(ends...)}
}

// long returns a periodic set by its fields.
func long(period int, l []api.Span) api.Periodic { return api.Periodic{Period: period, L: l} }

// fields returns a set by its fields; it is valid only if these are canonical.
func fields(left, right api.Periodic, from, to int, l []api.Span) api.Set {
	return api.Set{Left: left, Right: right, From: from, To: to, L: l}
}

// pure returns a purely periodic set.
func pure(p api.Periodic) api.Set { return fields(p, p, 0, 0, nil) }

// sameCycle reports whether two periodic sets have the same fields.
func sameCycle(a, b api.Periodic) bool { return a.Period == b.Period && slices.Equal(a.L, b.L) }

// same reports whether two sets have the same fields.
func same(a, b api.Set) bool {
	return sameCycle(a.Left, b.Left) && sameCycle(a.Right, b.Right) && a.From == b.From && a.To == b.To && slices.Equal(a.L, b.L)
}

// isZero reports whether a set is the zero value.
func isZero(s api.Set) bool { return same(s, api.Set{}) }

// inCycle reports by definition whether a periodic set contains x.
func inCycle(p api.Periodic, x int) bool { return inSpans(p.L, (x%p.Period+p.Period)%p.Period) }

func inSpans(l []api.Span, x int) bool {
	return slices.ContainsFunc(l, func(s api.Span) bool { return s.From <= x && x < s.To })
}

// contains reports by definition whether a set, canonical or not, contains x.
func contains(s api.Set, x int) bool {
	switch {
	case x < s.From:
		return inCycle(s.Left, x)
	case x < s.To:
		return inSpans(s.L, x)
	}
	return inCycle(s.Right, x)
}

// conditions returns by definition the error of two valid sides that are different, and do not fulfil the conditions of a pair.
func conditions(a, b api.Periodic) api.Errno {
	if sameCycle(a, b) {
		return api.OK
	}
	divisor, rest := a.Period, b.Period
	for rest > 0 {
		divisor, rest = rest, divisor%rest
	}
	if a.Period/divisor > most/b.Period {
		return api.ErrBig
	}
	common := a.Period / divisor * b.Period
	if common/a.Period*len(a.L)+common/b.Period*len(b.L) > full {
		return api.ErrFull
	}
	return api.OK
}

// runsOf returns the canonical list of the integers in an interval for which a condition holds, one after the other.
func runsOf(in api.Span, holds func(x int) bool) []api.Span {
	var l []api.Span
	for x := in.From; x < in.To; x++ {
		last := len(l) - 1
		switch {
		case !holds(x):
		case last >= 0 && l[last].To == x:
			l[last].To++
		default:
			l = append(l, span(x, x+1))
		}
	}
	return l
}

// canonical returns by definition the canonical form of a set that is as left before in.From, and as right from in.To on. It counts from two periods outside of these, where different sides have been different.
func canonical(left, right api.Periodic, in api.Span, holds func(x int) bool) (api.Set, api.Errno) {
	margin := 2 * left.Period * right.Period
	a, b := in.From, in.To
	for a < in.To+margin && holds(a) == inCycle(left, a) {
		a++
	}
	for b > in.From-margin && holds(b-1) == inCycle(right, b-1) {
		b--
	}
	switch {
	case a == in.To+margin && b == in.From-margin:
		return pure(left), api.OK
	case b < -line || min(a, b) < -line || b > line:
		return api.Set{}, api.ErrBig
	case a > b:
		return fields(left, right, b, b, nil), api.OK
	}
	return fields(left, right, a, b, runsOf(span(a, b), holds)), api.OK
}

// formOf returns by definition the canonical form of a set that is given by its fields.
func formOf(s api.Set) (api.Set, api.Errno) {
	return canonical(s.Left, s.Right, span(s.From, s.To), func(x int) bool { return contains(s, x) })
}

// cycles are all valid periodic sets with periods up to most.
func cycles(most int) []api.Periodic {
	var found []api.Periodic
	for period := 1; period <= most; period++ {
		for bits := range 1 << period {
			p := api.Periodic{Period: period, L: runsOf(span(0, period), func(x int) bool { return bits>>x&1 == 1 })}
			if periodic.Valid(p) {
				found = append(found, p)
			}
		}
	}
	return found
}

// given calls a function with all sets by their fields, canonical or not, that have the given sides, and a list between from and up to n integers behind it.
func given(sides []api.Periodic, from, n int, see func(s api.Set)) {
	for _, left := range sides {
		for _, right := range sides {
			for to := from; to <= from+n; to++ {
				for bits := range 1 << (to - from) {
					see(fields(left, right, from, to, runsOf(span(from, to), func(x int) bool { return bits>>(x-from)&1 == 1 })))
				}
			}
		}
	}
}

// small are the canonical forms of all sets that given calls a function with.
func small(sides []api.Periodic, from, n int) []api.Set {
	var found []api.Set
	given(sides, from, n, func(s api.Set) {
		form, e := formOf(s)
		if e == api.OK && !slices.ContainsFunc(found, func(f api.Set) bool { return same(f, form) }) {
			found = append(found, form)
		}
	})
	return found
}

// wide returns a set with n integers for each one of a set.
func wide(s api.Set, n int) api.Set {
	spans := func(l []api.Span) []api.Span {
		var wider []api.Span
		for _, s := range l {
			wider = append(wider, span(s.From*n, s.To*n))
		}
		return wider
	}
	side := func(p api.Periodic) api.Periodic {
		if p.Period == 1 {
			return p
		}
		return long(p.Period*n, spans(p.L))
	}
	return fields(side(s.Left), side(s.Right), s.From*n, s.To*n, spans(s.L))
}

// noSets are sets that are not valid.
func noSets() []api.Set {
	two, three, four := cycle(2, 0, 1), cycle(3, 0, 1), cycle(4, 0, 1)
	sets := []api.Set{
		// A side is not valid.
		{}, pure(cycle(0)), pure(cycle(2)), pure(cycle(4, 0, 1, 2, 3)), pure(cycle(-1)), pure(cycle(most+1, 0, 1)), pure(cycle(7, 6, 8)), fields(none, cycle(2), 0, 0, nil), fields(cycle(2), none, 0, 0, nil), fields(none, cycle(0), 0, 1, list(0, 1)), fields(cycle(0), none, 0, 1, list(0, 1)), fields(two, cycle(4, 1, 2, 3, 4), 0, 0, nil), fields(api.Periodic{}, none, 3, 4, list(3, 4)), fields(none, api.Periodic{}, 3, 4, list(3, 4)), pure(long(most, row(full+1, 0, 3, 1))),
		// The sides do not fulfil the conditions of a pair.
		fields(cycle(99991, 0, 1), cycle(most, 0, 1), 1, 1, nil), fields(cycle(most, 0, 1), cycle(11, 0, 1), 1, 1, nil), fields(all, cycle(2000, 0, 1), 0, 0, nil), fields(cycle(2000, 0, 1), all, 0, 0, nil), fields(cycle(1<<20, 0, 1), two, 1, 1, nil), fields(long(3*full+1, row(full, 0, 3, 1)), cycle(3*full+1, 0, 2), 2, 2, nil),
		// The ends are not on the line, or not in order.
		fields(none, none, 1, 0, nil), fields(none, all, 1, 0, nil), fields(none, all, 5, 4, nil), fields(none, none, line+1, line+2, nil), fields(none, none, line, line+1, list(line, line+1)), fields(none, none, -line-1, -line, list(-line-1, -line)), fields(none, all, line+1, line+1, nil), fields(none, all, -line-1, -line-1, nil), fields(none, all, math.MaxInt, math.MaxInt, nil), fields(none, all, math.MinInt, math.MinInt, nil), fields(none, all, math.MinInt, math.MaxInt, nil), fields(none, all, math.MaxInt, math.MinInt, nil), fields(all, all, -line-1, line, nil), fields(all, all, -line, line+1, nil),
		// The list is not canonical, or not between the ends.
		fields(none, none, 0, 5, list(0, 2, 2, 5)), fields(none, none, 0, 5, list(0, 3, 2, 5)), fields(none, none, 0, 5, list(3, 5, 0, 1)), fields(none, none, 0, 5, list(0, 5, 3, 3)), fields(none, none, 0, 5, list(0, 6)), fields(none, none, 0, 5, list(-1, 5)), fields(none, none, 0, 5, list(-1, 3, 4, 5)), fields(none, none, 0, 5, list(0, 1, 4, 6)), fields(none, none, 0, 5, list(0, 1, 4, 5, 7, 8)), fields(none, none, 0, 5, list(-5, -4, 0, 1, 4, 5)), fields(none, none, 0, 0, list(0, 1)), fields(none, all, 0, 0, list(0, 1)), fields(none, all, 0, 0, list(-1, 0)), fields(none, none, 0, 2*full+1, row(full+1, 0, 2, 1)), fields(none, none, 0, 5, list(0, math.MaxInt)), fields(none, none, 0, 5, list(math.MinInt, 5)),
		// From is not A.
		fields(none, none, 0, 5, list(1, 5)), fields(none, none, -1, 5, list(0, 5)), fields(all, all, 0, 5, list(0, 3)), fields(two, two, 0, 2, list(0, 2)), fields(none, all, 0, 5, list(1, 4)), fields(two, four, 8, 13, list(8, 9, 10, 12)), fields(none, none, -line, line, list(-line+1, line)),
		// To is not B.
		fields(none, none, 0, 6, list(0, 5)), fields(none, none, 0, 5, list(0, 4)), fields(all, all, 0, 5, list(3, 5)), fields(two, two, 0, 3, list(1, 3)), fields(none, all, 0, 5, list(0, 5)), fields(none, all, 0, 5, list(0, 3, 4, 5)), fields(two, four, 8, 14, list(8, 10, 12, 13)), fields(none, none, -line, line, list(-line, line-1)),
		// Both are equal, but not B.
		fields(two, four, 10, 10, nil), fields(two, four, 8, 8, nil), fields(two, four, 9, 9, nil), fields(two, four, 6, 6, nil),
	}
	return append(sets,
		fields(three, none, 2, 2, nil), fields(three, none, 3, 3, nil), fields(none, three, 0, 0, nil), fields(none, three, 2, 2, nil), fields(three, none, 0, 0, nil), fields(two, four, 7, 10, list(8, 9)), fields(two, four, 7, 8, nil),
		// They are purely periodic.
		fields(none, none, 5, 5, nil), fields(two, two, 1, 1, nil), fields(two, two, 5, 5, nil), fields(all, all, line, line, nil), fields(all, all, -line, -line, nil), fields(none, none, 0, 1, nil), fields(two, two, 0, 1, list(0, 1)), fields(all, all, -3, 5, list(-3, 5)), fields(three, three, 0, 4, list(0, 1, 3, 4)), fields(none, none, 0, 9, nil),
	)
}

// someSets are valid sets of all kinds.
func someSets() []api.Set {
	two, three, four, seven := cycle(2, 0, 1), cycle(3, 0, 1), cycle(4, 0, 1), cycle(7, 0, 1)
	day, week := cycle(86400, 32400, 61200), cycle(604800, 0, 432000)
	return []api.Set{
		pure(none), pure(all), pure(two), pure(seven), pure(day), pure(week), pure(cycle(most, 0, 1)), pure(cycle(most, most-1, most)), pure(long(3*full+1, row(full, 0, 3, 1))),
		fields(seven, seven, 7, 8, nil), fields(seven, seven, 7, 9, list(8, 9)), fields(none, all, 0, 0, nil), fields(all, none, 0, 0, nil), fields(none, all, -line, -line, nil), fields(none, all, line, line, nil), fields(all, none, line, line, nil), fields(two, four, 7, 7, nil), fields(four, two, 11, 11, nil), fields(three, none, 1, 1, nil), fields(none, three, -2, -2, nil), fields(three, none, -line+2, -line+2, nil),
		fields(none, none, 0, 1, list(0, 1)), fields(none, none, -line, line, list(-line, line)), fields(none, none, -line, -line+1, list(-line, -line+1)), fields(none, none, line-1, line, list(line-1, line)), fields(none, none, -line, line, list(-line, -line+1, line-1, line)), fields(all, all, -line, line, nil), fields(all, all, 3, 9, list(4, 5, 6, 8)), fields(none, all, 3, 9, list(3, 8)), fields(none, all, 3, 9, list(3, 5, 6, 8)), fields(all, none, 3, 9, list(8, 9)), fields(two, three, -10, 21, list(-5, -4, 20, 21)),
		fields(day, day, 32400, 61200, list(40000, 50000)), fields(week, week, -1000000, 1000000, nil), fields(none, week, 302400, 302400, nil), fields(day, week, 46800, 86400*3+43200, nil), fields(cycle(most, 0, 1), none, 1, 1, nil), fields(cycle(most, 5, 9), cycle(most, 4, 9), 5, 5, nil), fields(cycle(most, 7, 8), cycle(most, 4, 9), most+5, most+9, list(most+5, most+8)),
		fields(none, none, 0, 2*full-1, row(full, 0, 2, 1)), fields(none, none, -line, -line+2*full-1, row(full, -line, 2, 1)), fields(none, none, line-2*full+1, line, row(full, line-2*full+1, 2, 1)), fields(long(3*full+1, row(full, 0, 3, 1)), none, 3*full-2, 3*full-2, nil), fields(none, long(3*full+1, row(full, 0, 3, 1)), -3, -3, nil), fields(long(3*full+1, row(full/2, 0, 6, 1)), long(3*full+1, row(full/2, 3, 6, 1)), 1, 1, nil), fields(two, two, 0, 3*full, row(full, 1, 3, 2)), fields(all, none, 1, 3*full+1, row(full, 2, 3, 2)),
	}
}

func TestP141Valid(t *testing.T) {
	for i, s := range someSets() {
		if !Valid(s) {
			t.Errorf("Valid of the set %d, %s, is false", i, brief(s))
		}
	}
	for i, s := range noSets() {
		if Valid(s) {
			t.Errorf("Valid of the set %d, %s, is true", i, brief(s))
		}
	}
	if !Valid(fields(api.Periodic{Period: 1, L: []api.Span{}}, none, 0, 0, []api.Span{})) {
		t.Error("the empty set with empty lists is not valid")
	}
}

// TestP141ByDefinition has all fields of small sets, at several places.
func TestP141ByDefinition(t *testing.T) {
	for _, from := range []int{-3, -2, -1, 0, 1, 2, 3, 1 << 40, -line, -line + 1, -line + 5, line - 4, line - 3, line - 1, line} {
		given(cycles(3), from, 4, func(s api.Set) {
			form, e := formOf(s)
			if want := s.To <= line && e == api.OK && same(form, s); Valid(s) != want {
				t.Errorf("Valid(%v) is %t", s, !want)
			}
		})
	}
}

// TestP141ByFours has sides with periods up to 4.
func TestP141ByFours(t *testing.T) {
	for from := -4; from <= 0; from++ {
		given(cycles(4), from, 3, func(s api.Set) {
			form, e := formOf(s)
			if want := e == api.OK && same(form, s); Valid(s) != want {
				t.Errorf("Valid(%v) is %t", s, !want)
			}
		})
	}
}

// TestP141Pairs has sides whose spans in their common period are as many as there may be, or one more, and common periods that are as long as they may be, or longer; equal sides need not fulfil the conditions.
func TestP141Pairs(t *testing.T) {
	for i, c := range []struct {
		left, right api.Periodic
		at          int
		want        bool
	}{
		{cycle(1999, 0, 1), all, 0, true}, {all, cycle(1999, 0, 1), 1999, true}, {all, cycle(1999, 0, 1), 1, false}, {all, cycle(1999, 0, 1), 0, true}, {cycle(2000, 0, 1), all, 0, false}, {all, cycle(2000, 0, 1), 0, false}, {long(most, row(full-1, 0, 3, 1)), cycle(most, 0, 2), 2, true}, {long(most, row(full, 0, 3, 1)), cycle(most, 0, 2), 2, false}, {cycle(most/2, 0, 1), cycle(most, 0, 1), 1, false}, {cycle(most/2, 0, 1), cycle(most, 0, 1), -most/2 + 1, true}, {cycle(1000, 0, 1), cycle(1001, 0, 1), -1000, false}, {cycle(999, 0, 1), cycle(1001, 0, 1), -998, true},
	} {
		if s := fields(c.left, c.right, c.at, c.at, nil); Valid(s) != c.want {
			t.Errorf("%d: Valid(%s) is %t", i, brief(s), !c.want)
		}
	}
	for _, p := range []api.Periodic{long(most, row(full, 0, 3, 1)), long(2*full+1, row(full, 0, 2, 1)), cycle(most-1, 5, 6)} {
		if !Valid(pure(p)) {
			t.Errorf("Valid of a purely periodic set with %d spans is false", len(p.L))
		}
	}
}

func TestP141Has(t *testing.T) {
	for i, s := range someSets() {
		places := slices.Concat(strange, []int{s.From - 1, s.From, s.From + 1, s.To - 1, s.To, s.To + 1, s.From - most, s.To + most})
		for d := -40; d <= 40; d++ {
			places = append(places, d, s.From+d*1000, s.To+d*86400)
		}
		for _, l := range [][]api.Span{s.L, s.Left.L, s.Right.L} {
			for _, s := range l[:min(len(l), 20)] {
				places = append(places, s.From-1, s.From, s.To-1, s.To)
			}
		}
		for _, x := range places {
			if Has(s, x) != contains(s, x) {
				t.Errorf("Has of the set %d and %d is %t", i, x, !contains(s, x))
			}
		}
	}
	for i, s := range noSets() {
		for _, x := range append(strange, -6, 4, 5, 6, 8) {
			if Has(s, x) {
				t.Errorf("Has of the set %d, %s, and %d", i, brief(s), x)
			}
		}
	}
}

func TestP141Equal(t *testing.T) {
	sets := someSets()
	for i, a := range sets {
		for j, b := range sets {
			b.L, b.Left.L, b.Right.L = slices.Clone(b.L), slices.Clone(b.Left.L), slices.Clone(b.Right.L)
			if Equal(a, b) != (i == j) {
				t.Errorf("Equal of the sets %d and %d is %t", i, j, i != j)
			}
		}
		for _, b := range noSets() {
			if Equal(a, b) || Equal(b, a) {
				t.Errorf("Equal of the set %d and %s", i, brief(b))
			}
		}
	}
	for _, a := range noSets() {
		if Equal(a, a) {
			t.Errorf("Equal of %s and itself", brief(a))
		}
	}
	empty := []api.Span{}
	if !Equal(pure(none), fields(long(1, empty), long(1, empty), 0, 0, empty)) || !Equal(fields(none, all, 3, 3, empty), fields(long(1, empty), all, 3, 3, nil)) {
		t.Error("nil and an empty list are not equal")
	}
}

// TestP141EqualFields has valid sets that differ in one field only.
func TestP141EqualFields(t *testing.T) {
	two, three, l := cycle(2, 0, 1), cycle(3, 0, 1), list(-1, 3, 13, 14)
	a := fields(two, three, -1, 14, l)
	for _, b := range []api.Set{fields(three, three, -1, 14, l), fields(two, two, -1, 14, l), fields(two, three, -2, 14, l), fields(two, three, -1, 16, l), fields(two, three, -1, 14, list(-1, 4, 13, 14)), fields(two, three, -1, 14, list(-1, 3, 12, 14)), fields(two, three, -1, 14, list(-1, 3, 5, 6, 13, 14))} {
		if !Valid(a) || !Valid(b) || Equal(a, b) || Equal(b, a) {
			t.Errorf("Valid(%v) is %t; it equals %v: %t", b, Valid(b), a, Equal(a, b))
		}
	}
}

func TestP142Examples(t *testing.T) {
	two, three, four, seven := cycle(2, 0, 1), cycle(3, 0, 1), cycle(4, 0, 1), cycle(7, 0, 1)
	for _, c := range []struct {
		left, right api.Periodic
		from, to    int
		l           []api.Span
		want        api.Set
	}{
		{seven, seven, 7, 8, nil, fields(seven, seven, 7, 8, nil)}, {seven, seven, 1, 14, nil, fields(seven, seven, 7, 8, nil)}, {seven, seven, 0, 14, nil, fields(seven, seven, 0, 8, nil)}, {seven, seven, 0, 14, list(0, 1), fields(seven, seven, 7, 8, nil)}, {seven, seven, -20, 14, list(-14, -13, -7, -6, 0, 1), fields(seven, seven, 7, 8, nil)},
		{none, all, 0, 0, nil, fields(none, all, 0, 0, nil)}, {none, all, -5, 5, list(0, 5), fields(none, all, 0, 0, nil)}, {none, all, 5, 9, list(5, 9), fields(none, all, 5, 5, nil)}, {none, all, 5, 9, nil, fields(none, all, 9, 9, nil)}, {all, none, 5, 9, list(5, 6), fields(all, none, 6, 6, nil)}, {all, none, 5, 9, list(6, 7), fields(all, none, 5, 7, list(6, 7))}, {none, all, 5, 9, list(6, 7), fields(none, all, 6, 9, list(6, 7))},
		{two, four, 10, 10, nil, fields(two, four, 7, 7, nil)}, {two, four, 7, 7, nil, fields(two, four, 7, 7, nil)}, {two, four, 8, 8, nil, fields(two, four, 7, 7, nil)}, {two, four, 11, 11, nil, fields(two, four, 11, 11, nil)}, {two, four, 6, 6, nil, fields(two, four, 3, 3, nil)}, {two, four, 0, 9, list(0, 1, 2, 3, 4, 5, 6, 7, 8, 9), fields(two, four, 7, 7, nil)}, {two, four, 0, 15, list(0, 1, 2, 3, 4, 5, 6, 7, 8, 9, 12, 13), fields(two, four, 7, 7, nil)}, {two, four, 0, 9, list(0, 1, 2, 3, 4, 6, 8, 9), fields(two, four, 5, 6, list(5, 6))}, {two, four, 0, 10, list(0, 1, 2, 3, 4, 5, 6, 7, 9, 10), fields(two, four, 8, 10, list(9, 10))},
		{two, two, 0, 6, list(0, 1, 2, 3, 4, 5), pure(two)}, {two, two, 5, 5, nil, pure(two)}, {two, two, 1, 2, nil, pure(two)}, {two, two, 1, 3, nil, fields(two, two, 2, 3, nil)}, {two, two, 1, 4, list(2, 4), fields(two, two, 3, 4, list(3, 4))}, {none, none, -9, 9, nil, pure(none)}, {all, all, -9, 9, list(-9, 9), pure(all)}, {all, all, -9, 9, list(-9, 2, 3, 9), fields(all, all, 2, 3, nil)}, {all, all, -line, line, list(-line, line), pure(all)}, {none, none, -line, line, nil, pure(none)}, {none, none, line, line, nil, pure(none)}, {none, none, -line, -line, nil, pure(none)}, {two, two, line, line, nil, pure(two)}, {all, all, -line, line, nil, fields(all, all, -line, line, nil)},
		{three, none, 3, 3, nil, fields(three, none, 1, 1, nil)}, {three, none, 1, 1, nil, fields(three, none, 1, 1, nil)}, {three, none, 0, 0, nil, fields(three, none, -2, -2, nil)}, {none, three, 1, 1, nil, fields(none, three, 1, 1, nil)}, {none, three, 0, 0, nil, fields(none, three, -2, -2, nil)}, {none, three, 3, 3, nil, fields(none, three, 1, 1, nil)}, {cycle(most, 0, 1), none, most, most, nil, fields(cycle(most, 0, 1), none, 1, 1, nil)}, {cycle(most, 0, 1), none, 0, 0, nil, fields(cycle(most, 0, 1), none, 1-most, 1-most, nil)}, {cycle(most, 0, 1), cycle(most, 5, 9), 7, 12, nil, fields(cycle(most, 0, 1), cycle(most, 5, 9), 9, 9, nil)}, {cycle(most, 0, 1), cycle(most, 5, 9), most, most + 9, list(most, most+1, most+5, most+9), fields(cycle(most, 0, 1), cycle(most, 5, 9), most+1, most+1, nil)},
	} {
		if s, e := Of(c.left, c.right, c.from, c.to, c.l); e != api.OK || !same(s, c.want) {
			t.Errorf("Of(%v, %v, %d, %d, %v) = %v, %d; want %v", c.left, c.right, c.from, c.to, c.l, s, e, c.want)
		}
	}
}

// TestP142ByDefinition has all small sets by their fields, at several places: in some of them the form would not be on the line.
func TestP142ByDefinition(t *testing.T) {
	tooBig := 0
	for _, from := range []int{-7, -2, -1, 0, 1, 2, 3, 1 << 40, -1 << 40, -line, -line + 1, -line + 2, -line + 6, line - 4} {
		given(cycles(3), from, 4, func(s api.Set) {
			want, e := formOf(s)
			if e != api.OK {
				tooBig++
			}
			if form, f := Of(s.Left, s.Right, s.From, s.To, s.L); f != e || !same(form, want) {
				t.Errorf("Of(%v) = %v, %d; want %v, %d", s, form, f, want, e)
			}
		})
	}
	if tooBig == 0 {
		t.Error("all forms were on the line")
	}
}

// TestP142ByFours has sides with periods up to 4.
func TestP142ByFours(t *testing.T) {
	for _, from := range []int{-2, -1, 0, 1} {
		given(cycles(4), from, 3, func(s api.Set) {
			want, e := formOf(s)
			if form, f := Of(s.Left, s.Right, s.From, s.To, s.L); f != e || !same(form, want) {
				t.Errorf("Of(%v) = %v, %d; want %v, %d", s, form, f, want, e)
			}
		})
	}
}

// TestP142Wide has small sets with many integers for each one, up to the longest periods.
func TestP142Wide(t *testing.T) {
	for _, n := range []int{2, 1000, 86400, most / 6} {
		for _, from := range []int{-1, 0, 3} {
			given(cycles(3), from, 3, func(s api.Set) {
				form, _ := formOf(s)
				want, given := wide(form, n), wide(s, n)
				e := conditions(given.Left, given.Right)
				if e != api.OK {
					want = api.Set{}
				}
				if got, f := Of(given.Left, given.Right, given.From, given.To, given.L); f != e || !same(got, want) {
					t.Errorf("Of(%v) = %v, %d; want %v, %d", given, got, f, want, e)
				}
			})
		}
	}
}

// TestP142Again finds each valid set again from its fields, and from descriptions in which the list reaches further.
func TestP142Again(t *testing.T) {
	for i, s := range someSets() {
		if form, e := Of(s.Left, s.Right, s.From, s.To, s.L); e != api.OK || !same(form, s) {
			t.Errorf("Of of the set %d = %s, %d", i, brief(form), e)
		}
		for _, more := range [][2]int{{1, 0}, {0, 1}, {7, 7}, {50, 0}, {0, 50}, {100, 3}} {
			from, to := max(-line, s.From-more[0]), min(line, s.To+more[1])
			if from == to || len(s.L) > full/2 || len(s.L) == 0 && s.To-s.From > 1<<21 {
				continue
			}
			l := join(runsOf(span(from, s.From), func(x int) bool { return inCycle(s.Left, x) }), s.L, runsOf(span(s.To, to), func(x int) bool { return inCycle(s.Right, x) }))
			joined := l[:0:0]
			for _, next := range l {
				if last := len(joined) - 1; last >= 0 && joined[last].To == next.From {
					joined[last].To = next.To
				} else {
					joined = append(joined, next)
				}
			}
			if form, e := Of(s.Left, s.Right, from, to, joined); e != api.OK || !same(form, s) {
				t.Errorf("Of of the set %d from %d to %d = %s, %d; want %s", i, from, to, brief(form), e, brief(s))
			}
		}
	}
}

func TestP142Errors(t *testing.T) {
	two, far, other := cycle(2, 0, 1), cycle(most, 0, 1), cycle(99991, 0, 1)
	for i, c := range []struct {
		left, right api.Periodic
		from, to    int
		l           []api.Span
		want        api.Errno
	}{
		{cycle(2), none, 0, 0, nil, api.ErrArg}, {none, cycle(2), 0, 0, nil, api.ErrArg}, {api.Periodic{}, api.Periodic{}, 0, 0, nil, api.ErrArg}, {cycle(4, 0, 1, 2, 3), two, 0, 0, nil, api.ErrArg}, {two, cycle(4, 0, 1, 2, 3), 0, 0, nil, api.ErrArg}, {cycle(most+1, 0, 1), two, 0, 0, nil, api.ErrArg}, {cycle(7, 6, 8), cycle(7, 6, 8), 0, 0, nil, api.ErrArg},
		{two, two, 1, 0, nil, api.ErrArg}, {two, two, line, -line, nil, api.ErrArg}, {two, two, 0, line + 1, nil, api.ErrArg}, {two, two, -line - 1, 0, nil, api.ErrArg}, {two, two, line + 1, line + 1, nil, api.ErrArg}, {two, two, -line - 1, -line - 1, nil, api.ErrArg}, {two, two, math.MinInt, math.MaxInt, nil, api.ErrArg}, {two, two, math.MaxInt, math.MinInt, nil, api.ErrArg}, {two, two, math.MinInt, math.MinInt, nil, api.ErrArg}, {none, all, math.MaxInt, math.MaxInt, nil, api.ErrArg},
		{two, two, 0, 5, list(0, 2, 2, 3), api.ErrArg}, {two, two, 0, 5, list(0, 3, 2, 4), api.ErrArg}, {two, two, 0, 5, list(3, 4, 0, 1), api.ErrArg}, {two, two, 0, 5, list(2, 2), api.ErrArg}, {two, two, 0, 5, list(3, 2), api.ErrArg}, {two, two, 0, 5, list(-1, 2), api.ErrArg}, {two, two, 0, 5, list(4, 6), api.ErrArg}, {two, two, 0, 5, list(-2, -1), api.ErrArg}, {two, two, 0, 5, list(5, 6), api.ErrArg}, {two, two, 0, 5, list(0, 1, 3, 6), api.ErrArg}, {two, two, 0, 5, list(-1, 1, 3, 5), api.ErrArg}, {two, two, 0, 0, list(0, 1), api.ErrArg}, {two, two, 0, 0, list(-1, 0), api.ErrArg}, {two, two, 0, line, list(0, line+1), api.ErrArg}, {none, none, 0, line, row(full+1, 0, 2, 1), api.ErrArg}, {two, two, 0, line, row(full+1, 0, 2, 1), api.ErrArg}, {two, two, 0, 5, list(math.MinInt, math.MaxInt), api.ErrArg},
		// The conditions of a pair, and what comes before them.
		{far, other, 0, 0, nil, api.ErrBig}, {other, far, 0, 0, nil, api.ErrBig}, {all, cycle(2000, 0, 1), 0, 0, nil, api.ErrFull}, {cycle(2000, 0, 1), all, 0, 0, nil, api.ErrFull}, {all, cycle(1999, 0, 1), 0, 0, nil, api.OK}, {long(most, row(full, 0, 3, 1)), long(most, row(full, 0, 3, 1)), 0, 0, nil, api.OK}, {long(most, row(full, 0, 3, 1)), long(most, row(full, 1, 3, 1)), 0, 0, nil, api.ErrFull}, {long(most, row(full, 0, 3, 1)), none, 0, 0, nil, api.OK}, {none, long(most, row(full, 0, 3, 1)), 0, 0, nil, api.OK}, {far, cycle(most/2, 0, 1), 0, 0, nil, api.OK}, {far, other, 1, 0, nil, api.ErrArg}, {far, other, 0, line + 1, nil, api.ErrArg}, {far, other, 0, 5, list(4, 6), api.ErrArg}, {all, cycle(2000, 0, 1), 0, 5, list(4, 6), api.ErrArg}, {cycle(99991, 0, 99991), far, 0, 0, nil, api.ErrArg},
		// The form would not be on the line, and what comes before this.
		{far, none, -line, -line, nil, api.ErrBig}, {none, far, -line, -line, nil, api.ErrBig}, {far, none, -line, -line + most, nil, api.ErrBig}, {far, none, -line, -line + 1, list(-line, -line+1), api.OK}, {far, none, -line, line, list(line-1, line), api.OK}, {far, other, -line, -line, nil, api.ErrBig}, {all, cycle(2000, 0, 1), -line, -line, nil, api.ErrFull}, {cycle(2, 1, 2), none, -line, -line, nil, api.OK}, {two, none, -line, -line, nil, api.ErrBig}, {two, none, -line, -line + 1, nil, api.ErrBig}, {two, none, -line, -line + 1, list(-line, -line+1), api.OK}, {two, none, -line + 1, -line + 1, nil, api.OK}, {far, none, line, line, nil, api.OK}, {none, all, -line, -line, nil, api.OK}, {none, all, -line, -line + 1, list(-line, -line+1), api.OK},
	} {
		s, e := Of(c.left, c.right, c.from, c.to, c.l)
		if e != c.want || e == api.OK && !Valid(s) || e != api.OK && !isZero(s) {
			t.Errorf("%d: Of(%s, %s, %d, %d, %s) = %s, %d; want %d", i, brief(c.left), brief(c.right), c.from, c.to, brief(c.l), brief(s), e, c.want)
		}
	}
}

func TestP142From(t *testing.T) {
	for _, c := range []struct {
		l    []api.Span
		want api.Set
	}{
		{nil, pure(none)}, {[]api.Span{}, pure(none)}, {list(4, 6, 3, 4), fields(none, none, 3, 6, list(3, 6))}, {list(0, 1), fields(none, none, 0, 1, list(0, 1))}, {list(-7, -5, 10, 12, -5, -3, 11, 20), fields(none, none, -7, 20, list(-7, -3, 10, 20))}, {list(5, 9, 0, 3), fields(none, none, 0, 9, list(0, 3, 5, 9))}, {list(0, 9, 2, 3, 0, 9), fields(none, none, 0, 9, list(0, 9))}, {list(-line, line), fields(none, none, -line, line, list(-line, line))}, {list(line-1, line, -line, -line+1), fields(none, none, -line, line, list(-line, -line+1, line-1, line))}, {row(5*full, 0, 1, 1), fields(none, none, 0, 5*full, list(0, 5*full))}, {row(full, 0, 2, 1), fields(none, none, 0, 2*full-1, row(full, 0, 2, 1))},
	} {
		if s, e := From(c.l); e != api.OK || !same(s, c.want) {
			t.Errorf("From(%s) = %s, %d; want %s", brief(c.l), brief(s), e, brief(c.want))
		}
	}
	for i, c := range []struct {
		l    []api.Span
		want api.Errno
	}{
		{list(0, 0), api.ErrArg}, {list(5, 3), api.ErrArg}, {list(0, 1, 5, 5), api.ErrArg}, {list(0, line+1), api.ErrArg}, {list(-line-1, 0), api.ErrArg}, {list(math.MinInt, math.MaxInt), api.ErrArg}, {row(full+1, 0, 2, 1), api.ErrFull}, {row(3*full, -5, 2, 1), api.ErrFull}, {join(row(full+1, 0, 2, 1), list(0, 0)), api.ErrArg},
	} {
		if s, e := From(c.l); e != c.want || !isZero(s) {
			t.Errorf("%d: From(%s) = %s, %d; want %d", i, brief(c.l), brief(s), e, c.want)
		}
	}
}

// TestP142FromByDefinition has the spans of single integers, in two orders, and their runs.
func TestP142FromByDefinition(t *testing.T) {
	for _, from := range []int{-3, 0, -line, line - 8} {
		for bits := range 1 << 8 {
			var spans []api.Span
			for d := range 8 {
				if bits>>d&1 == 1 {
					spans = append(spans, span(from+d, from+d+1))
				}
			}
			holds := func(x int) bool { return inSpans(spans, x) }
			want, _ := canonical(none, none, span(from, from+8), holds)
			back := slices.Clone(spans)
			slices.Reverse(back)
			for _, l := range [][]api.Span{spans, back, join(back, spans), runsOf(span(from, from+8), holds)} {
				if s, e := From(l); e != api.OK || !same(s, want) {
					t.Errorf("From(%v) = %v, %d; want %v", l, s, e, want)
				}
			}
		}
	}
}
