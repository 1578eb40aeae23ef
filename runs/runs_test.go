package runs

import (
	"math"
	"slices"
	"testing"

	"civiltime/api"
)

const (
	line = api.MaxLine
	full = api.MaxRuns
)

// strange are integers at and beyond the bounds of the line and of int.
var strange = []int{
	math.MinInt, math.MinInt + 1, math.MinInt + line, -1 << 62, -2*line - 1, -2 * line, -2*line + 1, -line - 1, -line, -line + 1, -2, -1,
	0, 1, 2, 3, line - 1, line, line + 1, 2*line - 1, 2 * line, 2*line + 1, 1 << 62, math.MaxInt - line, math.MaxInt - 1, math.MaxInt,
}

func span(from, to int) api.Span { return api.Span{From: from, To: to} }

// list returns the spans with the given ends.
func list(ends ...int) []api.Span {
	var l []api.Span
	for i := 0; i < len(ends); i += 2 {
		l = append(l, span(ends[i], ends[i+1]))
	}
	return l
}

// row returns n spans of one width, of which each one begins a step behind the one before.
func row(n, first, step, width int) []api.Span {
	var l []api.Span
	for i := range n {
		l = append(l, span(first+i*step, first+i*step+width))
	}
	return l
}

// join returns one list of several ones.
func join(lists ...[]api.Span) []api.Span { return slices.Concat(lists...) }

// cells is the number of those in which small sets lie.
const cells = 8

// scale says where small sets lie: their cell c has the integers from first + c width on, width of them.
type scale struct{ first, width int }

// scales are those of single integers, around 0 and at both ends of the line, and one whose cells fill the line.
var scales = []scale{{-3, 1}, {-line, 1}, {line - cells, 1}, {-50, 1000}, {-line, 2 * line / cells}}

// list returns the canonical list of a small set, whose cells are the bits of a number.
func (s scale) list(set int) []api.Span {
	var l []api.Span
	for c := range cells {
		from := s.first + c*s.width
		switch last := len(l) - 1; {
		case set>>c&1 == 0:
		case last >= 0 && l[last].To == from:
			l[last].To += s.width
		default:
			l = append(l, span(from, from+s.width))
		}
	}
	return l
}

// window returns the span of all cells.
func (s scale) window() api.Span { return span(s.first, s.first+cells*s.width) }

// noLists are lists that are not canonical.
func noLists() [][]api.Span {
	return [][]api.Span{
		list(0, 0), list(3, 3), list(2, 1), list(0, -1), list(line, line), list(-line, -line), list(line, -line),
		list(0, line+1), list(-line-1, 0), list(-line-1, line+1), list(line, line+1), list(-line-1, -line), list(line+1, line+2), list(-line-3, -line-2),
		list(math.MinInt, math.MaxInt), list(math.MaxInt, math.MinInt), list(math.MinInt, 0), list(0, math.MaxInt), list(math.MinInt, math.MinInt), list(math.MaxInt, math.MaxInt), list(math.MaxInt-1, math.MaxInt),
		list(0, 1, 1, 3), list(-line, 0, 0, line), list(0, 1, 3, 4, 4, 5), list(0, 1, 1, 3, 5, 6),
		list(0, 2, 1, 3), list(0, 5, 1, 3), list(0, 1, 0, 1), list(0, 3, 0, 5), list(0, 5, 3, 5), list(5, 6, 0, 1), list(5, 6, 0, 5), list(0, 1, 5, 6, 3, 4), list(0, 9, 12, 13, 5, 6),
		list(0, 1, 5, 5), list(3, 3, 5, 6), list(0, 1, 4, 4, 6, 7), list(0, 1, 6, 4, 8, 9), list(0, 1, 3, line+1), list(-line-1, -5, 0, 1), list(0, 1, line+2, line+3), list(0, 1, 3, math.MaxInt), list(math.MinInt, -1, 0, 1),
		row(full+1, 0, 2, 1), row(full+1, -line, 7, 3), row(2*full, 0, 3, 1), row(full, 0, 1, 1), row(full, 2*full, -2, 1), append(row(full-1, 0, 2, 1), span(2*full-3, 2*full)), append(row(full-1, 0, 2, 1), span(2*full, 2*full)),
	}
}

// someLists are canonical lists of all kinds.
func someLists() [][]api.Span {
	return [][]api.Span{
		nil, {}, list(0, 1), list(-1, 0), list(0, 4, 6, 8), list(0, 4, 6, 10), list(2, 7, 10, 12), list(-line, line), list(-line, -line+1), list(line-1, line), list(-line, -line+1, line-1, line), list(-line, -1, 0, line), list(-1<<33, -1<<31, 5, 6, 1<<31, 1<<33),
		row(full, 0, 2, 1), row(full-1, -5, 10, 9), row(full, -line, 2, 1), row(full, line-2*full+1, 2, 1), row(full, -line, 2*line/full, 2*line/full-1), row(37, -100, 6, 4),
	}
}

func TestP121Valid(t *testing.T) {
	for _, l := range someLists() {
		if !Valid(l) {
			t.Errorf("Valid(%.80v) is false", l)
		}
	}
	for i, l := range noLists() {
		if Valid(l) {
			t.Errorf("Valid(%v) is true, the list %d", l[:min(len(l), 5)], i)
		}
	}
}

// TestP121TwoSpans has all lists of two spans between -2 and 4, also of such that are no valid spans.
func TestP121TwoSpans(t *testing.T) {
	for a := -2; a <= 4; a++ {
		for b := -2; b <= 4; b++ {
			if Valid(list(a, b)) != (a < b) {
				t.Errorf("Valid of [%d, %d) is %t", a, b, a >= b)
			}
			for c := -2; c <= 4; c++ {
				for d := -2; d <= 4; d++ {
					if want := a < b && b < c && c < d; Valid(list(a, b, c, d)) != want {
						t.Errorf("Valid of [%d, %d), [%d, %d) is %t", a, b, c, d, !want)
					}
				}
			}
		}
	}
}

// TestP121EverySpan has long lists with one span, at any index, that is not valid, or touches the next one.
func TestP121EverySpan(t *testing.T) {
	for i := range full {
		l := row(full, 0, 4, 3)
		l[i].To = l[i].From
		if Valid(l) {
			t.Errorf("the span %d is empty", i)
		}
		l[i].To = l[i].From + 4
		if Valid(l) != (i == full-1) {
			t.Errorf("the span %d touches the next one", i)
		}
		l[i] = span(l[i].From+1, l[i].From+2)
		if !Valid(l) {
			t.Errorf("the span %d is short", i)
		}
	}
}

func TestP121Equal(t *testing.T) {
	lists := someLists()
	for i, a := range lists {
		for j, b := range lists {
			// The first two lists are both empty.
			want := i == j || i < 2 && j < 2
			if Equal(a, b) != want || Equal(a, slices.Clone(b)) != want {
				t.Errorf("Equal of the lists %d and %d is not %t", i, j, want)
			}
		}
		for _, b := range noLists() {
			if Equal(a, b) || Equal(b, a) {
				t.Errorf("Equal of the list %d and %.80v", i, b)
			}
		}
	}
	for _, a := range noLists() {
		if Equal(a, a) || Equal(a, slices.Clone(a)) {
			t.Errorf("Equal of %.80v and itself", a)
		}
	}
}

// TestP121EqualParts has lists that differ in one end, or in their length only.
func TestP121EqualParts(t *testing.T) {
	a := list(0, 4, 6, 10, 20, 30)
	for _, b := range [][]api.Span{list(1, 4, 6, 10, 20, 30), list(0, 3, 6, 10, 20, 30), list(0, 4, 7, 10, 20, 30), list(0, 4, 6, 11, 20, 30), list(0, 4, 6, 10, 20, 31), list(0, 4, 6, 10, 21, 30), list(0, 4, 6, 10), list(6, 10, 20, 30), list(0, 4, 6, 10, 20, 30, 40, 41), nil} {
		if Equal(a, b) || Equal(b, a) {
			t.Errorf("Equal(%v, %v)", a, b)
		}
	}
}

func TestP122Examples(t *testing.T) {
	for _, c := range []struct {
		l, want []api.Span
		e       api.Errno
	}{
		{list(0, 3, 3, 5), list(0, 5), api.OK}, {list(3, 5, 0, 3), list(0, 5), api.OK}, {list(5, 9, 0, 3, 3, 4, 6, 7), list(0, 4, 5, 9), api.OK}, {list(0, 10, 2, 3, 4, 5), list(0, 10), api.OK}, {list(0, 10, 2, 3, 9, 12), list(0, 12), api.OK}, {list(4, 6, 0, 4, 6, 8), list(0, 8), api.OK}, {list(4, 5, 4, 9, 4, 7), list(4, 9), api.OK}, {list(1, 2, 1, 2), list(1, 2), api.OK}, {list(0, 1, 2, 3), list(0, 1, 2, 3), api.OK},
		{nil, nil, api.OK}, {[]api.Span{}, nil, api.OK}, {list(-line, 0, 0, line), list(-line, line), api.OK}, {list(line-1, line, -line, -line+1), list(-line, -line+1, line-1, line), api.OK}, {list(-line, line, 5, 6), list(-line, line), api.OK},
		{list(0, 3, 5, 5), nil, api.ErrArg}, {list(5, 5), nil, api.ErrArg}, {list(0, 10, 6, 5), nil, api.ErrArg}, {list(0, line+1), nil, api.ErrArg}, {list(-line-1, 5), nil, api.ErrArg}, {list(0, 3, 3, 2, 3, 5), nil, api.ErrArg}, {list(0, 3, math.MaxInt, math.MinInt), nil, api.ErrArg}, {list(math.MinInt, math.MaxInt), nil, api.ErrArg}, {list(-line, line, line, line), nil, api.ErrArg},
	} {
		if l, e := Of(c.l); !slices.Equal(l, c.want) || e != c.e {
			t.Errorf("Of(%v) = %v, %d; want %v, %d", c.l, l, e, c.want, c.e)
		}
	}
}

// TestP122ByDefinition has all lists of up to three spans of cells, in any order.
func TestP122ByDefinition(t *testing.T) {
	for _, s := range scales {
		type part struct {
			span api.Span
			set  int
		}
		var parts []part
		for from := range 6 {
			for to := from + 1; to <= 6; to++ {
				parts = append(parts, part{span(s.first+from*s.width, s.first+to*s.width), 1<<to - 1<<from})
			}
		}
		want := func(set int, l ...api.Span) {
			if got, e := Of(l); e != api.OK || !slices.Equal(got, s.list(set)) {
				t.Errorf("Of(%v) = %v, %d; want %v", l, got, e, s.list(set))
			}
		}
		for _, a := range parts {
			want(a.set, a.span)
			for _, b := range parts {
				want(a.set|b.set, a.span, b.span)
				for _, c := range parts {
					want(a.set|b.set|c.set, a.span, b.span, c.span)
				}
			}
		}
	}
}

// TestP122Many has more spans than a list may have, which are few ones together, as many as there may be, or more.
func TestP122Many(t *testing.T) {
	bridges := row(full, 1, 4, 3)
	for i, c := range []struct {
		l, want []api.Span
		e       api.Errno
	}{
		{row(5*full, 0, 1, 1), list(0, 5*full), api.OK}, {row(5*full, 0, 1, 9), list(0, 5*full+8), api.OK}, {row(5*full, 5*full, -1, 1), list(1, 5*full+1), api.OK}, {row(5*full, 7, 0, 4), list(7, 11), api.OK},
		{row(full, 0, 2, 1), row(full, 0, 2, 1), api.OK}, {row(full+1, 0, 2, 1), nil, api.ErrFull}, {row(full, 2*full, -2, 1), row(full, 2, 2, 1), api.OK}, {row(full+1, 2*full, -2, 1), nil, api.ErrFull}, {row(5*full, 0, 2, 1), nil, api.ErrFull},
		{join(row(full, 0, 2, 1), row(full, 0, 2, 1)), row(full, 0, 2, 1), api.OK}, {join(row(full, 0, 4, 1), row(full, 2, 4, 1)), nil, api.ErrFull}, {join(row(full/2, 0, 4, 1), row(full/2, 2, 4, 1)), row(full, 0, 2, 1), api.OK}, {join(row(full/2+1, 0, 4, 1), row(full/2, 2, 4, 1)), nil, api.ErrFull},
		{join(row(full+1, 0, 4, 1), bridges), list(0, 4*full+1), api.OK}, {join(bridges, row(full+1, 0, 4, 1)), list(0, 4*full+1), api.OK}, {join(row(full+1, 0, 4, 1), bridges[1:]), join(list(0, 1), list(4, 4*full+1)), api.OK}, {append(row(full+1, 0, 4, 1), span(1, 4)), join(list(0, 5), row(full-1, 8, 4, 1)), api.OK}, {append(row(full+1, 0, 4, 1), span(1, 3)), nil, api.ErrFull},
	} {
		if l, e := Of(c.l); !slices.Equal(l, c.want) || e != c.e {
			t.Errorf("%d: Of has %d spans, %d; want %d, %d", i, len(l), e, len(c.want), c.e)
		}
	}
}

// TestP122ErrArgFirst has a span that is not valid among too many ones.
func TestP122ErrArgFirst(t *testing.T) {
	for _, bad := range []api.Span{span(3, 3), span(5, 4), span(0, line+1), span(-line-1, 0), span(math.MaxInt, math.MinInt)} {
		for _, i := range []int{0, 1, full - 1, full, full + 1, 2*full - 1} {
			l := row(2*full, 0, 2, 1)
			l[i] = bad
			if got, e := Of(l); len(got) != 0 || e != api.ErrArg {
				t.Errorf("Of with %v at the index %d = %d spans, %d", bad, i, len(got), e)
			}
		}
	}
}

// TestP122Canonical finds again what is canonical, backwards, with each span twice, and divided.
func TestP122Canonical(t *testing.T) {
	for i, l := range someLists() {
		back := slices.Clone(l)
		slices.Reverse(back)
		var divided []api.Span
		for _, s := range l {
			middle := s.From + (s.To-s.From+1)/2
			if divided = append(divided, span(s.From, middle)); middle < s.To {
				divided = append(divided, span(middle, s.To))
			}
		}
		for j, same := range [][]api.Span{l, back, join(l, l), join(l, back), divided} {
			if got, e := Of(same); e != api.OK || !slices.Equal(got, l) {
				t.Errorf("Of of the list %d in the way %d: %d spans, %d", i, j, len(got), e)
			}
		}
	}
}

func TestP126Examples(t *testing.T) {
	for _, c := range []struct {
		a    []api.Span
		n    int
		want []api.Span
		e    api.Errno
	}{
		{list(0, 4, 6, 8), -3, list(-3, 1, 3, 5), api.OK}, {list(0, 4, 6, 8), 3, list(3, 7, 9, 11), api.OK}, {list(0, 4, 6, 8), 0, list(0, 4, 6, 8), api.OK},
		{list(0, 4, 6, 8), line - 8, list(line-8, line-4, line-2, line), api.OK}, {list(0, 4, 6, 8), line - 7, nil, api.ErrRange}, {list(0, 4, 6, 8), line - 6, nil, api.ErrRange}, {list(0, 4, 6, 8), line - 4, nil, api.ErrRange}, {list(0, 4, 6, 8), line, nil, api.ErrRange}, {list(0, 4, 6, 8), -line, list(-line, -line+4, -line+6, -line+8), api.OK}, {list(0, 4, 6, 8), -line - 1, nil, api.ErrRange}, {list(0, 4, 6, 8), -line - 4, nil, api.ErrRange}, {list(0, 4, 6, 8), -line - 8, nil, api.ErrRange}, {list(0, 4, 6, 8), -line - 9, nil, api.ErrRange},
		{list(-line, -line+1), 2*line - 1, list(line-1, line), api.OK}, {list(-line, -line+1), 2 * line, nil, api.ErrRange}, {list(-line, -line+1), 2*line + 1, nil, api.ErrRange}, {list(line-1, line), 1 - 2*line, list(-line, -line+1), api.OK}, {list(line-1, line), -2 * line, nil, api.ErrRange}, {list(-line, line), 0, list(-line, line), api.OK}, {list(-line, line), 1, nil, api.ErrRange}, {list(-line, line), -1, nil, api.ErrRange}, {list(-line, -line+1, line-1, line), 1, nil, api.ErrRange},
		{nil, 0, nil, api.OK}, {nil, 2 * line, nil, api.OK}, {nil, -2 * line, nil, api.OK}, {nil, 2*line + 1, nil, api.ErrRange}, {nil, -2*line - 1, nil, api.ErrRange}, {[]api.Span{}, 2 * line, nil, api.OK}, {[]api.Span{}, 2*line + 1, nil, api.ErrRange}, {nil, math.MaxInt, nil, api.ErrRange}, {nil, math.MinInt, nil, api.ErrRange}, {nil, math.MinInt + 1, nil, api.ErrRange},
		{list(0, 1), math.MaxInt, nil, api.ErrRange}, {list(0, 1), math.MinInt, nil, api.ErrRange}, {list(-2, -1), math.MinInt + 1, nil, api.ErrRange}, {list(5, 6), math.MaxInt - 5, nil, api.ErrRange},
	} {
		if m, e := Move(c.a, c.n); !slices.Equal(m, c.want) || e != c.e {
			t.Errorf("Move(%v, %d) = %v, %d; want %v, %d", c.a, c.n, m, e, c.want, c.e)
		}
	}
}

// TestP126Bounds moves each list as far as it can be moved, and farther.
func TestP126Bounds(t *testing.T) {
	for i, a := range someLists() {
		low, high := -2*line, 2*line
		if len(a) > 0 {
			low, high = -line-a[0].From, line-a[len(a)-1].To
		}
		for _, n := range append(strange, low-1, low, low+1, high-1, high, high+1) {
			want, wantError := slices.Clone(a), api.OK
			if n < low || n > high {
				want, wantError = nil, api.ErrRange
			}
			for j := range want {
				want[j].From += n
				want[j].To += n
			}
			if m, e := Move(a, n); !slices.Equal(m, want) || e != wantError {
				t.Errorf("Move of the list %d by %d: %d spans, %d; want %d, %d", i, n, len(m), e, len(want), wantError)
			}
		}
	}
}

// TestP126ErrArgFirst moves what is not canonical, also too far.
func TestP126ErrArgFirst(t *testing.T) {
	for _, a := range noLists() {
		for _, n := range strange {
			if m, e := Move(a, n); len(m) != 0 || e != api.ErrArg {
				t.Errorf("Move(%.80v, %d) = %.80v, %d", a, n, m, e)
			}
		}
	}
}
