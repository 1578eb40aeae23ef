package timeset

import (
	"math"
	"testing"

	"civiltime/api"
)

// operation is one of the three operations on two sets, and the same for one integer.
type operation struct {
	name string
	of   func(a, b api.Set) (api.Set, api.Errno)
	keep func(inA, inB bool) bool
}

func operations() []operation {
	return []operation{
		{"Union", Union, func(inA, inB bool) bool { return inA || inB }},
		{"Meet", Meet, func(inA, inB bool) bool { return inA && inB }},
		{"Minus", Minus, func(inA, inB bool) bool { return inA && !inB }},
	}
}

// sideOf returns by definition the valid form of a periodic set with one of the periods up to most.
func sideOf(most int, holds func(x int) bool) api.Periodic {
periods:
	for period := 1; ; period++ {
		for x := range 2 * most {
			if holds(x) != holds(x+period) {
				continue periods
			}
		}
		return long(period, runsOf(span(0, period), holds))
	}
}

// combined returns by definition what an operation returns for small sets.
func (o operation) combined(a, b api.Set) (api.Set, api.Errno) {
	side := func(p, q api.Periodic) api.Periodic {
		return sideOf(p.Period*q.Period, func(x int) bool { return o.keep(inCycle(p, x), inCycle(q, x)) })
	}
	left, right := side(a.Left, b.Left), side(a.Right, b.Right)
	if e := conditions(left, right); e != api.OK {
		return api.Set{}, e
	}
	in := span(min(a.From, b.From), max(a.To, b.To))
	switch {
	case a.From == a.To && sameCycle(a.Left, a.Right):
		in = span(b.From, b.To)
	case b.From == b.To && sameCycle(b.Left, b.Right):
		in = span(a.From, a.To)
	}
	return canonical(left, right, in, func(x int) bool { return o.keep(contains(a, x), contains(b, x)) })
}

func TestP143Examples(t *testing.T) {
	two, three, seven := cycle(2, 0, 1), cycle(3, 0, 1), cycle(7, 0, 1)
	some, rest := fields(none, none, 3, 6, list(3, 6)), fields(none, none, 3, 4, list(3, 4))
	for _, c := range []struct {
		of         func(a, b api.Set) (api.Set, api.Errno)
		a, b, want api.Set
	}{
		{Union, pure(two), some, fields(two, two, 3, 6, list(3, 6))}, {Meet, pure(two), some, fields(none, none, 4, 5, list(4, 5))}, {Minus, pure(two), some, fields(two, two, 4, 5, nil)}, {Minus, some, pure(two), fields(none, none, 3, 6, list(3, 4, 5, 6))},
		{Union, pure(two), pure(three), pure(cycle(6, 0, 1, 2, 5))}, {Meet, pure(two), pure(three), pure(cycle(6, 0, 1))}, {Minus, pure(two), pure(three), pure(cycle(6, 2, 3, 4, 5))}, {Minus, pure(seven), fields(none, none, 7, 8, list(7, 8)), fields(seven, seven, 7, 8, nil)},
		{Union, fields(none, all, 0, 0, nil), fields(all, none, 0, 0, nil), pure(all)}, {Meet, fields(none, all, 0, 0, nil), fields(all, none, 0, 0, nil), pure(none)}, {Meet, fields(none, all, 0, 0, nil), fields(all, none, 5, 5, nil), fields(none, none, 0, 5, list(0, 5))}, {Union, fields(none, all, 5, 5, nil), fields(all, none, 0, 0, nil), fields(all, all, 0, 5, nil)}, {Minus, fields(none, all, 0, 0, nil), fields(none, all, 5, 5, nil), fields(none, none, 0, 5, list(0, 5))}, {Minus, fields(none, all, 5, 5, nil), fields(none, all, 0, 0, nil), pure(none)},
		{Union, some, rest, some}, {Meet, some, rest, rest}, {Minus, some, rest, fields(none, none, 4, 6, list(4, 6))}, {Minus, rest, some, pure(none)}, {Union, pure(none), pure(none), pure(none)}, {Meet, pure(two), fields(none, all, 10, 10, nil), fields(none, two, 9, 9, nil)}, {Meet, pure(two), fields(all, none, 10, 10, nil), fields(two, none, 9, 9, nil)}, {Union, fields(two, none, 9, 9, nil), fields(none, two, 9, 9, nil), pure(two)}, {Union, fields(none, none, -line, 0, list(-line, 0)), fields(none, none, 0, line, list(0, line)), fields(none, none, -line, line, list(-line, line))}, {Minus, pure(all), fields(none, none, -line, line, list(-line, line)), fields(all, all, -line, line, nil)},
		// Only sets that are not purely periodic count for the window.
		{Union, pure(two), fields(none, none, 1000001, 1000002, list(1000001, 1000002)), fields(two, two, 1000001, 1000002, list(1000001, 1000002))}, {Minus, fields(none, none, -1000001, -1000000, list(-1000001, -1000000)), pure(two), fields(none, none, -1000001, -1000000, list(-1000001, -1000000))},
	} {
		if s, e := c.of(c.a, c.b); e != api.OK || !same(s, c.want) {
			t.Errorf("of %v and %v: %v, %d; want %v", c.a, c.b, s, e, c.want)
		}
	}
}

// checkOperations compares the operations on two small sets with their definition.
func checkOperations(t *testing.T, a, b api.Set) {
	t.Helper()
	for _, o := range operations() {
		want, e := o.combined(a, b)
		if s, f := o.of(a, b); f != e || !same(s, want) {
			t.Errorf("%s(%v, %v) = %v, %d; want %v, %d", o.name, a, b, s, f, want, e)
		}
		if o.name != "Minus" {
			continue
		}
		if within, f := Within(a, b); f != e || within != (e == api.OK && same(want, pure(none))) {
			t.Errorf("Within(%v, %v) = %t, %d", a, b, within, f)
		}
	}
}

// TestP143ByDefinition has all pairs of small sets that overlap.
func TestP143ByDefinition(t *testing.T) {
	sides := append(cycles(2), cycle(3, 0, 1))
	bs := small(sides, -1, 2)
	for _, a := range small(sides, 0, 3) {
		for _, b := range bs {
			checkOperations(t, a, b)
		}
	}
}

// TestP143Places has pairs of small sets at both ends of the line, and some integers from one another; at the lower end, some results would not be on the line.
func TestP143Places(t *testing.T) {
	tooBig := 0
	for _, places := range [][2]int{{-line, -line}, {-line, -line + 2}, {-line + 3, -line + 1}, {line - 2, line - 2}, {line - 2, line - 5}, {0, 9}, {-20, 6}} {
		bs := small(cycles(2), places[1], 2)
		for _, a := range small(cycles(2), places[0], 2) {
			for _, b := range bs {
				checkOperations(t, a, b)
				if _, e := Union(a, b); e != api.OK {
					tooBig++
				}
			}
		}
	}
	if tooBig == 0 {
		t.Error("all results were on the line")
	}
}

// TestP143Wide has small sets with many integers for each one.
func TestP143Wide(t *testing.T) {
	sides := []api.Periodic{none, cycle(2, 0, 1), cycle(3, 0, 1)}
	bs := small(sides, -2, 2)
	for _, a := range small(sides, 0, 2) {
		for _, b := range bs {
			for _, n := range []int{1000, most / 6} {
				for _, o := range operations() {
					want, e := o.combined(a, b)
					if s, f := o.of(wide(a, n), wide(b, n)); f != e || !same(s, wide(want, n)) {
						t.Errorf("%s(%v, %v), %d times = %v, %d; want %v, %d", o.name, a, b, n, s, f, want, e)
					}
				}
			}
		}
	}
}

// must returns the canonical form that Of returns.
func must(t *testing.T, left, right api.Periodic, from, to int, l []api.Span) api.Set {
	t.Helper()
	s, e := Of(left, right, from, to, l)
	if e != api.OK {
		t.Fatalf("Of(%s, %s, %d, %d, %s): %d", brief(left), brief(right), from, to, brief(l), e)
	}
	return s
}

// checkError fails if an operation does not return an error, and the zero value.
func checkError(t *testing.T, of func(a, b api.Set) (api.Set, api.Errno), a, b api.Set, want api.Errno) {
	t.Helper()
	if s, e := of(a, b); e != want || e != api.OK && !isZero(s) {
		t.Errorf("of %s and %s: %s, %d; want %d", brief(a), brief(b), brief(s), e, want)
	}
}

func TestP143Invalid(t *testing.T) {
	good := someSets()
	for i, bad := range noSets() {
		for _, o := range operations() {
			checkError(t, o.of, bad, good[i%len(good)], api.ErrArg)
			checkError(t, o.of, good[i%len(good)], bad, api.ErrArg)
			checkError(t, o.of, bad, bad, api.ErrArg)
		}
		for _, pair := range [][2]api.Set{{bad, good[0]}, {good[i%len(good)], bad}, {bad, bad}} {
			if within, e := Within(pair[0], pair[1]); within || e != api.ErrArg {
				t.Errorf("Within(%s, %s) = %t, %d", brief(pair[0]), brief(pair[1]), within, e)
			}
		}
	}
}

// TestP143SideErrors has errors of the operation for one side, and different ones for both: that of Left comes first.
func TestP143SideErrors(t *testing.T) {
	far, other := cycle(most, 0, 1), cycle(99991, 0, 1)
	short1, short2 := cycle(1009, 0, 1), cycle(1013, 0, 1)
	long1, long2 := cycle(1009*1900, 0, 1), cycle(1013*1901, 0, 1)
	for _, o := range operations() {
		checkError(t, o.of, pure(far), pure(other), api.ErrBig)
		checkError(t, o.of, pure(short1), pure(short2), api.ErrFull)
		checkError(t, o.of, must(t, far, none, 0, 0, nil), must(t, other, none, 0, 0, nil), api.ErrBig)
		checkError(t, o.of, must(t, none, far, 0, 0, nil), must(t, none, other, 0, 0, nil), api.ErrBig)
		checkError(t, o.of, must(t, short1, none, 0, 0, nil), must(t, short2, none, 0, 0, nil), api.ErrFull)
		checkError(t, o.of, must(t, none, short1, 0, 0, nil), must(t, none, short2, 0, 0, nil), api.ErrFull)
		checkError(t, o.of, must(t, long1, short1, 0, 0, nil), must(t, long2, short2, 0, 0, nil), api.ErrBig)
		checkError(t, o.of, must(t, short1, long1, 0, 0, nil), must(t, short2, long2, 0, 0, nil), api.ErrFull)
	}
	if within, e := Within(pure(far), pure(other)); within || e != api.ErrBig {
		t.Errorf("Within with different periods: %t, %d", within, e)
	}
}

// TestP143PairErrors has results whose sides do not fulfil the conditions of a pair, although those of the sets do; the error of the window would come behind.
func TestP143PairErrors(t *testing.T) {
	far, other := cycle(most, 0, 1), cycle(99991, 0, 1)
	short1, short2, notShort2 := cycle(1009, 0, 1), cycle(1013, 0, 1), cycle(1013, 1, 1013)
	checkError(t, Union, must(t, far, none, 1, 1, nil), must(t, none, other, 0, 0, nil), api.ErrBig)
	checkError(t, Union, must(t, all, none, 1, 1, nil), must(t, none, cycle(2000, 0, 1), 0, 0, nil), api.ErrFull)
	checkError(t, Union, must(t, all, none, 1, 1, nil), must(t, none, cycle(1999, 0, 1), 0, 0, nil), api.OK)
	checkError(t, Union, must(t, short1, none, 1, 1, nil), must(t, none, short2, 0, 0, nil), api.ErrFull)
	checkError(t, Meet, must(t, short1, all, 1, 1, nil), must(t, all, short2, 0, 0, nil), api.ErrFull)
	checkError(t, Minus, must(t, short1, all, 1, 1, nil), must(t, none, notShort2, 0, 0, nil), api.ErrFull)
	checkError(t, Union, must(t, far, none, 1, 5*full, row(full, 2, 2, 1)), must(t, none, other, 0, 5, list(2, 5)), api.ErrBig)
}

// TestP143WindowErrors has as many runs in the window as there may be, and one more: of a, of b, and of both together.
func TestP143WindowErrors(t *testing.T) {
	two, odd := pure(cycle(2, 0, 1)), pure(cycle(2, 1, 2))
	interval := func(from, to int) api.Set { return fields(none, none, from, to, list(from, to)) }
	rows := func(n, first int) api.Set { return must(t, none, none, -line, line, row(n, first, 4, 1)) }
	for _, o := range operations() {
		for _, c := range []struct {
			a, b api.Set
			want api.Errno
		}{
			// In the window, a and b have 1999 and 1 runs, or 2000 and 1, or more.
			{two, interval(0, 3998), api.OK}, {two, interval(0, 3999), api.ErrFull}, {two, interval(0, 4002), api.ErrFull}, {two, interval(-3998, 0), api.OK}, {two, interval(-3999, 0), api.OK}, {two, interval(-4000, 0), api.ErrFull}, {two, interval(-line, line), api.ErrFull}, {odd, interval(0, 3999), api.OK}, {odd, interval(0, 4000), api.ErrFull}, {pure(all), interval(-line, line), api.OK}, {pure(none), interval(-line, line), api.OK},
			{rows(full/2, 0), rows(full/2, 2), api.OK}, {rows(full/2+1, 0), rows(full/2, 2), api.ErrFull}, {rows(full/2+1, 0), rows(full/2+1, 0), api.ErrFull}, {rows(full/2, 0), rows(full/2, 0), api.OK}, {rows(full-1, 0), interval(0, 8000), api.OK}, {rows(full, 0), interval(0, 8000), api.ErrFull}, {rows(full, 0), interval(0, 1), api.ErrFull}, {rows(full, 0), pure(none), api.OK}, {rows(full-1, 0), pure(all), api.OK}, {rows(full, 0), pure(all), api.ErrFull}, {rows(full, 0), rows(full, 2), api.ErrFull}, {rows(full/2, 0), rows(full/2, -5*full), api.OK}, {rows(full/2, 0), rows(full/2+1, -5*full), api.ErrFull},
			// From -1 on, a has its even numbers, and in the window of both there are 1999 and 1, or 2000 and 1.
			{must(t, none, cycle(2, 0, 1), 0, 0, nil), interval(3995, 3997), api.OK}, {must(t, none, cycle(2, 0, 1), 0, 0, nil), interval(3998, 3999), api.ErrFull}, {must(t, none, cycle(2, 0, 1), 0, 0, nil), interval(-50000, -49999), api.OK}, {must(t, cycle(2, 0, 1), none, 0, 0, nil), interval(50000, 50001), api.OK}, {must(t, cycle(2, 0, 1), none, 0, 0, nil), interval(-50000, -49999), api.ErrFull},
			// The window is empty.
			{two, odd, api.OK}, {pure(long(3*full+1, row(full, 0, 3, 1))), pure(none), api.OK}, {must(t, cycle(2, 0, 1), cycle(2, 1, 2), 5, 5, nil), must(t, cycle(2, 1, 2), cycle(2, 0, 1), 5, 5, nil), api.OK},
		} {
			checkError(t, o.of, c.a, c.b, c.want)
			checkError(t, o.of, c.b, c.a, c.want)
			if _, e := Within(c.a, c.b); e != c.want {
				t.Errorf("Within(%s, %s): %d; want %d", brief(c.a), brief(c.b), e, c.want)
			}
		}
	}
}

// TestP143Full has results with as many runs as there may be.
func TestP143Full(t *testing.T) {
	rows := func(n, first, step, width int) api.Set {
		return must(t, none, none, -line, line, row(n, first, step, width))
	}
	union := rows(full, 0, 2, 1)
	if s, e := Union(rows(full/2, 0, 4, 1), rows(full/2, 2, 4, 1)); e != api.OK || !same(s, union) {
		t.Errorf("Union of two rows = %s, %d", brief(s), e)
	}
	minus := rows(full, 0, 3, 2)
	if s, e := Minus(fields(none, none, 0, 3*full-1, list(0, 3*full-1)), rows(full-1, 2, 3, 1)); e != api.OK || !same(s, minus) {
		t.Errorf("Minus of an interval and a row = %s, %d", brief(s), e)
	}
	meet := rows(full-1, 2, 2, 1)
	if s, e := Meet(rows(full/2, 0, 4, 3), rows(full/2, 2, 4, 3)); e != api.OK || !same(s, meet) {
		t.Errorf("Meet of two rows = %s, %d", brief(s), e)
	}
}

// TestP143FormErrors has results that would end before the line; the error of the window comes before.
func TestP143FormErrors(t *testing.T) {
	far := must(t, cycle(most, 0, 1), none, -line+most, -line+most, nil)
	last := far.To - 1
	one := fields(none, none, last, last+1, list(last, last+1))
	if far.To > -line+most || !contains(far, last) {
		t.Fatalf("the last integer of %v is not %d", far, last)
	}
	many := func(n int) api.Set {
		return must(t, none, none, last, last+4*full, join(list(last, last+1), row(n, last+2, 2, 1)))
	}
	checkError(t, Minus, far, one, api.ErrBig)
	checkError(t, Minus, far, many(full-2), api.ErrBig)
	checkError(t, Minus, far, many(full-1), api.ErrFull)
	checkError(t, Minus, must(t, cycle(most, 0, 1), none, most, most, nil), fields(none, none, 0, 1, list(0, 1)), api.OK)
	if within, e := Within(far, one); within || e != api.ErrBig {
		t.Errorf("Within(%v, %v) = %t, %d", far, one, within, e)
	}
	// Numbers that are missing are added, or taken away on the other side.
	gaps := must(t, cycle(7, 1, 7), all, -line+7, -line+7, nil)
	gap := gaps.To - 1
	hole := fields(none, none, gap, gap+1, list(gap, gap+1))
	checkError(t, Union, gaps, hole, api.ErrBig)
	checkError(t, Union, hole, gaps, api.ErrBig)
	checkError(t, Minus, gaps, hole, api.OK)
}

func TestP144Examples(t *testing.T) {
	two, odd, seven := cycle(2, 0, 1), cycle(2, 1, 2), cycle(7, 0, 1)
	for _, c := range [][2]api.Set{
		{pure(none), pure(all)}, {pure(two), pure(odd)}, {fields(none, all, 0, 0, nil), fields(all, none, 0, 0, nil)}, {fields(seven, seven, 7, 8, nil), fields(cycle(7, 1, 7), cycle(7, 1, 7), 7, 8, list(7, 8))}, {fields(two, two, 3, 6, list(3, 6)), fields(odd, odd, 3, 6, nil)}, {fields(none, none, 0, 9, list(0, 2, 7, 9)), fields(all, all, 0, 9, list(2, 7))}, {fields(none, none, -line, line, list(-line, line)), fields(all, all, -line, line, nil)}, {fields(two, odd, 0, 3, list(2, 3)), fields(odd, two, 0, 3, list(0, 2))}, {fields(none, seven, 1, 1, nil), fields(all, cycle(7, 1, 7), 1, 1, nil)},
	} {
		for i, s := range c {
			if not, e := Not(s); e != api.OK || !same(not, c[1-i]) {
				t.Errorf("Not(%v) = %v, %d; want %v", s, not, e, c[1-i])
			}
		}
	}
}

func TestP144ByDefinition(t *testing.T) {
	for _, from := range []int{-3, 0, 2, -line, line - 3} {
		for _, s := range small(cycles(3), from, 3) {
			side := func(p api.Periodic) api.Periodic {
				return sideOf(p.Period, func(x int) bool { return !inCycle(p, x) })
			}
			want, e := canonical(side(s.Left), side(s.Right), span(s.From, s.To), func(x int) bool { return !contains(s, x) })
			if not, f := Not(s); e != api.OK || f != api.OK || !same(not, want) {
				t.Errorf("Not(%v) = %v, %d; want %v", s, not, f, want)
			}
		}
	}
}

func TestP144Errors(t *testing.T) {
	inside := long(3*full+1, row(full, 1, 3, 1))
	quarter := func(first int) api.Periodic { return long(2*full+1, row(full/2, first, 4, 1)) }
	for i, c := range []struct {
		s    api.Set
		want api.Errno
	}{
		{pure(inside), api.ErrFull}, {must(t, inside, none, 0, 0, nil), api.ErrFull}, {must(t, none, inside, 0, 0, nil), api.ErrFull}, {pure(long(3*full+1, row(full, 0, 3, 1))), api.OK}, {pure(long(3*full, append(row(full-1, 1, 3, 1), span(3*full-1, 3*full)))), api.OK},
		// The sides have 1000 spans each, and without them 1001, or 1000 in the last case.
		{must(t, quarter(1), quarter(2), 0, 0, nil), api.ErrFull}, {must(t, quarter(0), quarter(1), 0, 0, nil), api.ErrFull}, {must(t, quarter(1), quarter(0), 0, 0, nil), api.ErrFull}, {must(t, quarter(0), long(2*full+1, row(full/2-1, 1, 4, 1)), 0, 0, nil), api.OK},
		{must(t, none, cycle(2000, 5, 6), 0, 0, nil), api.ErrFull}, {must(t, none, cycle(1999, 5, 6), 0, 0, nil), api.ErrFull}, {must(t, none, cycle(1998, 5, 6), 0, 0, nil), api.OK}, {must(t, cycle(1998, 5, 6), none, 0, 0, nil), api.OK}, {must(t, cycle(86400, 5, 6), none, 0, 0, nil), api.ErrFull},
		// L has 2000 runs, and without them 2001, or less.
		{fields(all, all, 0, 2*full+1, row(full, 1, 2, 1)), api.ErrFull}, {fields(all, none, 0, 2*full, row(full, 1, 2, 1)), api.OK}, {fields(none, all, 0, 2*full, row(full, 0, 2, 1)), api.OK}, {fields(none, none, 0, 2*full-1, row(full, 0, 2, 1)), api.OK}, {fields(all, all, 0, 2*full-1, row(full-1, 1, 2, 1)), api.OK},
	} {
		if !Valid(c.s) {
			t.Errorf("%d: the set %s is not valid", i, brief(c.s))
		}
		if not, e := Not(c.s); e != c.want || e != api.OK && !isZero(not) || e == api.OK && !Valid(not) {
			t.Errorf("%d: Not(%s) = %s, %d; want %d", i, brief(c.s), brief(not), e, c.want)
		}
	}
	for _, bad := range noSets() {
		if not, e := Not(bad); e != api.ErrArg || !isZero(not) {
			t.Errorf("Not(%s) = %s, %d", brief(bad), brief(not), e)
		}
	}
}

func TestP145Examples(t *testing.T) {
	two, odd, seven := cycle(2, 0, 1), cycle(2, 1, 2), cycle(7, 0, 1)
	for _, c := range []struct {
		s    api.Set
		n    int
		want api.Set
	}{
		{fields(none, none, 3, 6, list(3, 4, 5, 6)), 10, fields(none, none, 13, 16, list(13, 14, 15, 16))}, {fields(seven, seven, 7, 8, nil), 1, fields(cycle(7, 1, 2), cycle(7, 1, 2), 8, 9, nil)}, {fields(seven, seven, 7, 8, nil), -7, fields(seven, seven, 0, 1, nil)}, {pure(two), 1, pure(odd)}, {pure(two), 2, pure(two)}, {pure(two), line, pure(two)}, {pure(odd), -line, pure(odd)}, {pure(none), 5, pure(none)}, {pure(all), -line, pure(all)}, {fields(none, all, 0, 0, nil), line, fields(none, all, line, line, nil)}, {fields(none, all, 0, 0, nil), -line, fields(none, all, -line, -line, nil)}, {fields(none, all, line, line, nil), -line, fields(none, all, 0, 0, nil)}, {fields(two, two, 3, 6, list(3, 6)), 0, fields(two, two, 3, 6, list(3, 6))}, {fields(none, none, 0, 1, list(0, 1)), line - 1, fields(none, none, line-1, line, list(line-1, line))}, {fields(none, none, 0, 1, list(0, 1)), -line, fields(none, none, -line, -line+1, list(-line, -line+1))}, {pure(cycle(7, 5, 7)), 1, pure(cycle(7, 0, 1, 6, 7))},
	} {
		if s, e := Move(c.s, c.n); e != api.OK || !same(s, c.want) {
			t.Errorf("Move(%v, %d) = %v, %d; want %v", c.s, c.n, s, e, c.want)
		}
	}
}

// TestP145ByDefinition moves small sets by numbers of all sizes, also off the line.
func TestP145ByDefinition(t *testing.T) {
	for _, from := range []int{-2, 0, 5, -line, line - 3} {
		for _, s := range small(cycles(3), from, 3) {
			for _, n := range []int{-7, -3, -2, -1, 0, 1, 2, 3, 4, 5, 100, -1 << 40, line - 5, line - 1, line, -line, -line + 2} {
				side := func(p api.Periodic) api.Periodic {
					return sideOf(p.Period, func(x int) bool { return inCycle(p, x-n) })
				}
				want, e := fields(side(s.Left), side(s.Right), 0, 0, nil), api.OK
				if s.From != s.To || !sameCycle(s.Left, s.Right) {
					want, e = canonical(want.Left, want.Right, span(s.From+n, s.To+n), func(x int) bool { return contains(s, x-n) })
				}
				if moved, f := Move(s, n); f != e || !same(moved, want) {
					t.Errorf("Move(%v, %d) = %v, %d; want %v, %d", s, n, moved, f, want, e)
				}
			}
		}
	}
}

func TestP145Errors(t *testing.T) {
	one, from0 := fields(none, none, 0, 1, list(0, 1)), fields(none, all, 0, 0, nil)
	// Moved by one, the last one of 2000, or 1000, spans is divided by the end of the period.
	edge := long(3*full+1, row(full, 2, 3, 2))
	half := func(width int) api.Periodic { return long(2*full+1, row(full/2, 5-width, 4, width)) }
	for i, c := range []struct {
		s    api.Set
		n    int
		want api.Errno
	}{
		{one, line + 1, api.ErrRange}, {one, -line - 1, api.ErrRange}, {one, math.MaxInt, api.ErrRange}, {one, math.MinInt, api.ErrRange}, {pure(all), line + 1, api.ErrRange}, {pure(none), -line - 1, api.ErrRange}, {pure(cycle(2, 0, 1)), math.MinInt, api.ErrRange}, {fields(none, all, -line, -line, nil), 2 * line, api.ErrRange}, {fields(none, all, -line, -line, nil), line + 1, api.ErrRange},
		{one, line, api.ErrBig}, {one, line - 1, api.OK}, {one, -line, api.OK}, {fields(none, none, -1, 0, list(-1, 0)), -line, api.ErrBig}, {fields(none, none, -1, 0, list(-1, 0)), line, api.OK}, {from0, line, api.OK}, {from0, -line, api.OK}, {fields(none, all, 1, 1, nil), line, api.ErrBig}, {fields(none, all, -1, -1, nil), -line, api.ErrBig}, {fields(none, none, -line, line, list(-line, line)), 1, api.ErrBig}, {fields(none, none, -line, line, list(-line, line)), -1, api.ErrBig}, {fields(none, none, -line, line, list(-line, line)), 0, api.OK}, {fields(all, all, -line, line, nil), 1, api.ErrBig},
		{pure(edge), 1, api.ErrFull}, {pure(edge), 2, api.OK}, {pure(edge), -1, api.OK}, {must(t, edge, none, 0, 0, nil), 1, api.ErrFull}, {must(t, none, edge, 0, 0, nil), 1, api.ErrFull}, {must(t, edge, none, 0, 0, nil), 2, api.OK}, {must(t, none, edge, 0, 0, nil), 2, api.OK}, {pure(edge), line + 1, api.ErrRange},
		{must(t, half(2), half(3), 0, 0, nil), 0, api.OK}, {must(t, half(2), half(3), 0, 0, nil), 1, api.ErrFull}, {must(t, half(3), half(2), 0, 0, nil), 1, api.ErrFull}, {must(t, half(2), half(3), 0, 0, nil), -1, api.OK}, {must(t, half(2), half(3), line-1, line-1, nil), 4*full + 3, api.ErrFull}, {must(t, half(2), half(3), line-1, line-1, nil), 4*full + 2, api.ErrBig}, {must(t, edge, none, line, line, nil), 3*full + 2, api.ErrFull}, {must(t, edge, none, line, line, nil), 6*full + 2, api.ErrBig},
	} {
		if moved, e := Move(c.s, c.n); e != c.want || e != api.OK && !isZero(moved) || e == api.OK && !Valid(moved) {
			t.Errorf("%d: Move(%s, %d) = %s, %d; want %d", i, brief(c.s), c.n, brief(moved), e, c.want)
		}
	}
	for _, bad := range noSets() {
		for _, n := range []int{0, 1, line + 1, math.MinInt} {
			if moved, e := Move(bad, n); e != api.ErrArg || !isZero(moved) {
				t.Errorf("Move(%s, %d) = %s, %d", brief(bad), n, brief(moved), e)
			}
		}
	}
}

func TestP148Examples(t *testing.T) {
	two, seven := cycle(2, 0, 1), cycle(7, 0, 1)
	for _, c := range []struct {
		s    api.Set
		in   api.Span
		l    []api.Span
		want api.Set
	}{
		{pure(seven), span(7, 8), nil, fields(seven, seven, 7, 8, nil)}, {pure(seven), span(5, 10), list(8, 9), fields(seven, seven, 7, 9, list(8, 9))}, {pure(seven), span(5, 10), list(7, 8), pure(seven)}, {pure(seven), span(1, 7), nil, pure(seven)}, {pure(seven), span(0, 14), list(0, 1, 13, 14), fields(seven, seven, 7, 14, list(13, 14))}, {fields(seven, seven, 7, 8, nil), span(7, 8), list(7, 8), pure(seven)}, {pure(none), span(3, 6), list(3, 4, 5, 6), fields(none, none, 3, 6, list(3, 4, 5, 6))}, {pure(all), span(-line, line), nil, fields(all, all, -line, line, nil)}, {pure(none), span(-line, line), list(-line, line), fields(none, none, -line, line, list(-line, line))}, {fields(none, none, 0, 9, list(0, 2, 7, 9)), span(1, 8), list(3, 4), fields(none, none, 0, 9, list(0, 1, 3, 4, 8, 9))}, {fields(none, none, 0, 9, list(0, 2, 7, 9)), span(0, 9), nil, pure(none)}, {fields(none, all, 0, 0, nil), span(-5, 5), list(2, 5), fields(none, all, 2, 2, nil)}, {fields(none, all, 0, 0, nil), span(-5, 5), list(-4, -3), fields(none, all, -4, 5, list(-4, -3))}, {fields(two, cycle(4, 0, 1), 7, 7, nil), span(6, 7), nil, fields(two, cycle(4, 0, 1), 3, 3, nil)}, {pure(two), span(1000000, 1000001), nil, fields(two, two, 1000000, 1000001, nil)},
	} {
		if s, e := Replace(c.s, c.in, c.l); e != api.OK || !same(s, c.want) {
			t.Errorf("Replace(%v, %v, %v) = %v, %d; want %v", c.s, c.in, c.l, s, e, c.want)
		}
	}
}

// TestP148ByDefinition replaces all short intervals in and around small sets.
func TestP148ByDefinition(t *testing.T) {
	sides := append(cycles(2), cycle(3, 0, 1))
	for _, s := range small(sides, 0, 2) {
		for from := -3; from <= 5; from++ {
			for to := from + 1; to <= from+3; to++ {
				for bits := range 1 << (to - from) {
					l := runsOf(span(from, to), func(x int) bool { return bits>>(x-from)&1 == 1 })
					want, e := canonical(s.Left, s.Right, span(min(s.From, from), max(s.To, to)), func(x int) bool {
						if from <= x && x < to {
							return inSpans(l, x)
						}
						return contains(s, x)
					})
					if got, f := Replace(s, span(from, to), l); e != api.OK || f != api.OK || !same(got, want) {
						t.Errorf("Replace(%v, [%d, %d), %v) = %v, %d; want %v", s, from, to, l, got, f, want)
					}
				}
			}
		}
	}
}

func TestP148Errors(t *testing.T) {
	two, seven := pure(cycle(2, 0, 1)), pure(cycle(7, 0, 1))
	rows := func(n int) api.Set { return must(t, none, none, 0, 4*full, row(n, 0, 2, 1)) }
	far := must(t, cycle(most, 0, 1), none, -line+most, -line+most, nil)
	last := far.To - 1
	gaps := must(t, cycle(7, 1, 7), all, -line+7, -line+7, nil)
	gap := gaps.To - 1
	for i, c := range []struct {
		s    api.Set
		in   api.Span
		l    []api.Span
		want api.Errno
	}{
		{seven, span(5, 10), list(8, 11), api.ErrArg}, {seven, span(5, 10), list(4, 6), api.ErrArg}, {seven, span(5, 10), list(4, 11), api.ErrArg}, {seven, span(5, 10), list(10, 11), api.ErrArg}, {seven, span(5, 10), list(3, 5), api.ErrArg}, {seven, span(5, 10), list(5, 6, 9, 11), api.ErrArg}, {seven, span(5, 10), list(4, 6, 8, 9), api.ErrArg}, {seven, span(5, 10), list(5, 7, 7, 9), api.ErrArg}, {seven, span(5, 10), list(5, 8, 7, 9), api.ErrArg}, {seven, span(5, 10), list(8, 9, 5, 6), api.ErrArg}, {seven, span(5, 10), list(8, 8), api.ErrArg}, {seven, span(5, 10), list(9, 8), api.ErrArg}, {seven, span(5, 10), list(math.MinInt, math.MaxInt), api.ErrArg}, {seven, span(5, 10), list(5, 10), api.OK}, {seven, span(0, line), row(full+1, 0, 2, 1), api.ErrArg},
		{seven, span(5, 5), nil, api.ErrArg}, {seven, span(6, 5), nil, api.ErrArg}, {seven, span(0, line+1), nil, api.ErrArg}, {seven, span(-line-1, 0), nil, api.ErrArg}, {seven, span(-line-1, 0), list(-5, -4), api.ErrArg}, {seven, span(math.MinInt, math.MaxInt), nil, api.ErrArg}, {seven, span(math.MaxInt, math.MinInt), nil, api.ErrArg}, {seven, api.Span{}, nil, api.ErrArg},
		// Without the interval: the runs in the window.
		{two, span(0, 3998), nil, api.OK}, {two, span(0, 3999), nil, api.ErrFull}, {two, span(-line, line), nil, api.ErrFull}, {two, span(0, 3999), list(5, 4000), api.ErrArg}, {rows(full - 1), span(0, 1), nil, api.OK}, {rows(full), span(0, 1), nil, api.ErrFull}, {rows(full), span(0, 4*full), nil, api.ErrFull}, {rows(full), span(5*full, 5*full+1), nil, api.ErrFull},
		// With the list.
		{pure(none), span(0, 2*full), row(full, 0, 2, 1), api.OK}, {rows(1500), span(5*full, 7*full), row(500, 5*full, 2, 1), api.OK}, {rows(1500), span(5*full, 7*full), row(501, 5*full, 2, 1), api.ErrFull}, {rows(1500), span(0, 1000), row(500, 0, 2, 1), api.OK}, {two, span(0, 1000), list(0, 1000), api.OK},
		// What would not be on the line: without the interval, and with the list.
		{far, span(last, last+1), nil, api.ErrBig}, {far, span(last, last+1), list(last, last+1), api.ErrBig}, {far, span(last-1, last), nil, api.OK}, {gaps, span(gap, gap+1), nil, api.OK}, {gaps, span(gap, gap+1), list(gap, gap+1), api.ErrBig}, {far, span(last, last+1), list(last, last+2), api.ErrArg},
	} {
		if s, e := Replace(c.s, c.in, c.l); e != c.want || e != api.OK && !isZero(s) || e == api.OK && !Valid(s) {
			t.Errorf("%d: Replace(%s, %v, %s) = %s, %d; want %d", i, brief(c.s), c.in, brief(c.l), brief(s), e, c.want)
		}
	}
	for _, bad := range noSets() {
		for _, l := range [][]api.Span{nil, list(0, 1), list(0, 0)} {
			if s, e := Replace(bad, span(0, 5), l); e != api.ErrArg || !isZero(s) {
				t.Errorf("Replace(%s, [0, 5), %v) = %s, %d", brief(bad), l, brief(s), e)
			}
		}
	}
}
