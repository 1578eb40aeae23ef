package runs

import (
	"math"
	"slices"
	"testing"

	"civiltime/api"
)

// noSpans are no valid spans.
var noSpans = []api.Span{
	span(0, 0), span(1, 1), span(2, 1), span(line, line), span(-line, -line), span(line, -line), span(0, line+1), span(-line-1, 0), span(-line-1, line+1), span(line, line+1), span(-line-1, -line),
	span(math.MinInt, math.MaxInt), span(math.MaxInt, math.MinInt), span(math.MinInt, 0), span(0, math.MaxInt), span(math.MinInt, math.MinInt), span(math.MaxInt, math.MaxInt),
}

// operation is one of the four operations on two lists, and the same on small sets.
type operation struct {
	name string
	of   func(a, b []api.Span) ([]api.Span, api.Errno)
	bits func(a, b int) int
}

func operations() []operation {
	return []operation{
		{"Union", Union, func(a, b int) int { return a | b }},
		{"Meet", Meet, func(a, b int) int { return a & b }},
		{"Minus", Minus, func(a, b int) int { return a &^ b }},
		{"Either", Either, func(a, b int) int { return a ^ b }},
	}
}

func TestP123Examples(t *testing.T) {
	a, b := list(0, 4, 6, 10), list(2, 7, 10, 12)
	for i, c := range []struct{ a, b, union, meet, minus, either []api.Span }{
		{a, b, list(0, 12), list(2, 4, 6, 7), list(0, 2, 7, 10), list(0, 2, 4, 6, 7, 12)}, {b, a, list(0, 12), list(2, 4, 6, 7), list(4, 6, 10, 12), list(0, 2, 4, 6, 7, 12)},
		{a, a, a, a, nil, nil}, {a, nil, a, nil, a, a}, {nil, a, a, nil, nil, a}, {nil, nil, nil, nil, nil, nil}, {a, []api.Span{}, a, nil, a, a},
		{list(0, 3), list(3, 5), list(0, 5), nil, list(0, 3), list(0, 5)}, {list(0, 3), list(4, 5), list(0, 3, 4, 5), nil, list(0, 3), list(0, 3, 4, 5)}, {list(0, 4, 6, 8), list(4, 6), list(0, 8), nil, list(0, 4, 6, 8), list(0, 8)}, {list(0, 8), list(4, 6), list(0, 8), list(4, 6), list(0, 4, 6, 8), list(0, 4, 6, 8)},
		{list(-line, line), list(0, 1), list(-line, line), list(0, 1), list(-line, 0, 1, line), list(-line, 0, 1, line)}, {list(-line, 0), list(0, line), list(-line, line), nil, list(-line, 0), list(-line, line)}, {list(-line, line), list(-line, line), list(-line, line), list(-line, line), nil, nil}, {list(-line, line), list(-line, -line+1, line-1, line), list(-line, line), list(-line, -line+1, line-1, line), list(-line+1, line-1), list(-line+1, line-1)},
	} {
		for j, want := range [][]api.Span{c.union, c.meet, c.minus, c.either} {
			if l, e := operations()[j].of(c.a, c.b); e != api.OK || !slices.Equal(l, want) {
				t.Errorf("%d: %s(%v, %v) = %v, %d; want %v", i, operations()[j].name, c.a, c.b, l, e, want)
			}
		}
	}
}

// TestP123ByDefinition has all pairs of small sets.
func TestP123ByDefinition(t *testing.T) {
	for _, s := range scales {
		for a := range 1 << cells {
			for b := range 1 << cells {
				for _, o := range operations() {
					if l, e := o.of(s.list(a), s.list(b)); e != api.OK || !slices.Equal(l, s.list(o.bits(a, b))) {
						t.Errorf("%s(%v, %v) = %v, %d; want %v", o.name, s.list(a), s.list(b), l, e, s.list(o.bits(a, b)))
					}
				}
			}
		}
	}
}

func TestP123Not(t *testing.T) {
	for _, c := range []struct {
		a    []api.Span
		in   api.Span
		want []api.Span
	}{
		{list(0, 4, 6, 8), span(0, 10), list(4, 6, 8, 10)}, {list(0, 4, 6, 10), span(-1, 8), list(-1, 0, 4, 6)}, {nil, span(1, 2), list(1, 2)}, {[]api.Span{}, span(-line, line), list(-line, line)}, {list(0, 4), span(0, 4), nil}, {list(0, 4), span(1, 3), nil}, {list(0, 4), span(4, 5), list(4, 5)}, {list(0, 4), span(-1, 0), list(-1, 0)}, {list(0, 4, 6, 8), span(10, 20), list(10, 20)}, {list(0, 4, 6, 8), span(4, 6), list(4, 6)}, {list(0, 4, 6, 8), span(5, 6), list(5, 6)},
		{list(-line, line), span(-line, line), nil}, {list(-line, -line+1, line-1, line), span(-line, line), list(-line+1, line-1)}, {list(0, 1), span(-line, line), list(-line, 0, 1, line)},
	} {
		if l, e := Not(c.a, c.in); e != api.OK || !slices.Equal(l, c.want) {
			t.Errorf("Not(%v, %v) = %v, %d; want %v", c.a, c.in, l, e, c.want)
		}
	}
}

// TestP123NotByDefinition has all small sets in all spans of cells.
func TestP123NotByDefinition(t *testing.T) {
	for _, s := range scales {
		for a := range 1 << cells {
			for from := range cells {
				for to := from + 1; to <= cells; to++ {
					in, want := span(s.first+from*s.width, s.first+to*s.width), s.list((1<<to-1<<from)&^a)
					if l, e := Not(s.list(a), in); e != api.OK || !slices.Equal(l, want) {
						t.Errorf("Not(%v, %v) = %v, %d; want %v", s.list(a), in, l, e, want)
					}
				}
			}
		}
	}
}

func TestP123Invalid(t *testing.T) {
	for _, bad := range noLists() {
		for _, o := range operations() {
			for _, good := range append(someLists(), bad) {
				if l, e := o.of(bad, good); len(l) != 0 || e != api.ErrArg {
					t.Errorf("%s(%.80v, %.80v) = %.80v, %d", o.name, bad, good, l, e)
				}
				if l, e := o.of(good, bad); len(l) != 0 || e != api.ErrArg {
					t.Errorf("%s(%.80v, %.80v) = %.80v, %d", o.name, good, bad, l, e)
				}
			}
		}
		for _, in := range []api.Span{span(0, 1), span(-line, line), span(1<<33, 1<<34), span(0, 0), span(math.MaxInt, 0)} {
			if l, e := Not(bad, in); len(l) != 0 || e != api.ErrArg {
				t.Errorf("Not(%.80v, %v) = %.80v, %d", bad, in, l, e)
			}
		}
	}
	for _, in := range noSpans {
		for _, a := range someLists() {
			if l, e := Not(a, in); len(l) != 0 || e != api.ErrArg {
				t.Errorf("Not(%.80v, %v) = %.80v, %d", a, in, l, e)
			}
		}
	}
}

// TestP123Full has results with as many spans as a list may have, or with one more.
func TestP123Full(t *testing.T) {
	half := full / 2
	shifted := func(n int) []api.Span { return row(n, 4, 10, 7) }
	for i, c := range []struct {
		of   func(a, b []api.Span) ([]api.Span, api.Errno)
		a, b []api.Span
		n    int
	}{
		{Union, row(half, 0, 4, 1), row(half, 2, 4, 1), full}, {Union, row(half+1, 0, 4, 1), row(half, 2, 4, 1), full + 1}, {Union, row(half, 0, 4, 1), row(half+1, 2, 4, 1), full + 1}, {Union, row(full, 0, 4, 1), row(full, 2, 4, 1), 2 * full}, {Union, row(full, 0, 4, 1), nil, full}, {Union, row(full, 0, 4, 1), list(-2, -1), full + 1}, {Union, row(full, 0, 4, 1), list(-2, 0), full}, {Union, list(4*full, 4*full+1), row(full, 0, 4, 1), full + 1}, {Union, row(full, 0, 4, 1), row(full, 1, 4, 3), 1}, {Union, row(full, 0, 4, 1), row(full, 0, 4, 1), full},
		{Meet, row(half+1, 0, 10, 5), shifted(half), full}, {Meet, row(half+1, 0, 10, 5), shifted(half + 1), full + 1}, {Meet, shifted(half + 1), row(half+1, 0, 10, 5), full + 1}, {Meet, row(full, 0, 10, 5), shifted(full), 2*full - 1}, {Meet, row(full, 0, 10, 5), list(-line, line), full}, {Meet, row(full, 0, 4, 1), row(full, 1, 4, 3), 0},
		{Minus, row(full, 0, 10, 3), list(1, 2), full + 1}, {Minus, row(full-1, 0, 10, 3), list(1, 2), full}, {Minus, row(full, 0, 10, 3), list(0, 1), full}, {Minus, row(full, 0, 10, 3), list(1, 2, 10, 13), full}, {Minus, list(-line, line), row(full, 0, 10, 3), full + 1}, {Minus, list(-line, line), row(full-1, 0, 10, 3), full}, {Minus, list(0, line), row(full, 0, 10, 3), full}, {Minus, row(full, 0, 10, 9), row(full, 3, 10, 3), 2 * full}, {Minus, row(full, 0, 10, 3), row(full, 0, 10, 3), 0},
		{Either, row(full, 0, 10, 3), list(1, 2), full + 1}, {Either, list(-2, -1), row(full, 0, 10, 3), full + 1}, {Either, row(full, 0, 10, 3), list(0, 1), full}, {Either, row(full, 0, 10, 3), list(3, 4), full}, {Either, row(full, 0, 10, 3), row(full, 5, 10, 3), 2 * full}, {Either, row(full, 0, 10, 3), row(full, 0, 10, 3), 0}, {Either, row(full, 0, 10, 3), row(full, 3, 10, 7), 1}, {Either, row(half, 0, 10, 3), row(half, 5, 10, 3), full},
	} {
		l, e := c.of(c.a, c.b)
		if c.n > full && (len(l) != 0 || e != api.ErrFull) || c.n <= full && (len(l) != c.n || e != api.OK || !Valid(l)) {
			t.Errorf("%d: %d spans, %d; want %d", i, len(l), e, c.n)
		}
	}
}

func TestP123NotFull(t *testing.T) {
	for i, c := range []struct {
		a  []api.Span
		in api.Span
		n  int
	}{
		{row(full, 1, 2, 1), span(0, 2*full), full}, {row(full, 1, 2, 1), span(0, 2*full+1), full + 1}, {row(full, 1, 2, 1), span(1, 2*full+1), full}, {row(full, 1, 2, 1), span(1, 2*full), full - 1}, {row(full, 1, 2, 1), span(-line, line), full + 1}, {row(full-1, 1, 2, 1), span(-line, line), full}, {row(full, 1, 2, 1), span(-line, 1), 1},
	} {
		l, e := Not(c.a, c.in)
		if c.n > full && (len(l) != 0 || e != api.ErrFull) || c.n <= full && (len(l) != c.n || e != api.OK || !Valid(l)) {
			t.Errorf("%d: %d spans, %d; want %d", i, len(l), e, c.n)
		}
	}
}

// random returns a source of numbers below n, which are the same ones for each seed.
func random(seed uint64) func(n int) int {
	return func(n int) int {
		seed = seed*6364136223846793005 + 1442695040888963407
		return int(seed>>33) % n
	}
}

// TestP123Long compares long lists integer by integer.
func TestP123Long(t *testing.T) {
	next := random(12)
	for range 100 {
		longest := 1 + next(7)
		lists := [2][]api.Span{}
		for i := range lists {
			for at, n := next(10), next(full); n >= 0; n-- {
				to := at + 1 + next(longest)
				lists[i] = append(lists[i], span(at, to))
				at = to + 1 + next(longest)
			}
		}
		a, b := lists[0], lists[1]
		size := max(a[len(a)-1].To, b[len(b)-1].To) + 1
		inA, inB := marks(a, size), marks(b, size)
		for _, o := range operations() {
			want := make([]bool, size)
			for x := range want {
				want[x] = o.bits(inA[x], inB[x]) == 1
			}
			wantList, wantError := spansOf(want), api.OK
			if len(wantList) > full {
				wantList, wantError = nil, api.ErrFull
			}
			if l, e := o.of(a, b); e != wantError || !slices.Equal(l, wantList) {
				t.Errorf("%s of %d and %d spans: %d spans, %d; want %d, %d", o.name, len(a), len(b), len(l), e, len(wantList), wantError)
			}
		}
	}
}

// marks returns 1 at the integers from 0 on that are in a span, and 0 at the others.
func marks(l []api.Span, size int) []int {
	in := make([]int, size)
	for _, s := range l {
		for x := s.From; x < s.To; x++ {
			in[x] = 1
		}
	}
	return in
}

// spansOf returns the longest spans of the integers from 0 on that are in a set.
func spansOf(in []bool) []api.Span {
	var l []api.Span
	for x, has := range in {
		switch {
		case has && (x == 0 || !in[x-1]):
			l = append(l, span(x, x+1))
		case has:
			l[len(l)-1].To++
		}
	}
	return l
}
