package interval

import (
	"math"
	"slices"
	"testing"

	"civiltime/api"
)

const line = api.MaxLine

func span(from, to int) api.Span { return api.Span{From: from, To: to} }

// strange are integers at and beyond the bounds of the line and of int.
var strange = []int{
	math.MinInt, math.MinInt + 1, math.MinInt + line, -1 << 62, -2*line - 1, -2 * line, -line - 2, -line - 1, -line, -line + 1, -line + 2, -13, -12, -2, -1,
	0, 1, 2, 3, 4, 5, 6, 7, 8, 9, 10, 11, 12, 13, 14, line - 2, line - 1, line, line + 1, line + 2, 2*line - 1, 2 * line, 2*line + 1, 1 << 62, math.MaxInt - line, math.MaxInt - 1, math.MaxInt,
}

// invalid are no valid intervals.
var invalid = []api.Span{
	span(0, 0), span(1, 1), span(-1, -1), span(5, 3), span(1, 0), span(0, -1), span(line, line), span(-line, -line), span(line, -line),
	span(0, line+1), span(line, line+1), span(-line, line+1), span(-line-1, 0), span(-line-1, -line), span(-line-1, line), span(-line-1, line+1), span(line+1, line+2), span(-line-2, -line-1), span(line+1, 0), span(0, -line-1),
	span(math.MinInt, math.MaxInt), span(math.MaxInt, math.MinInt), span(math.MinInt, 0), span(0, math.MaxInt), span(0, math.MinInt), span(math.MaxInt, 0), span(math.MinInt, math.MinInt), span(math.MaxInt, math.MaxInt),
}

// between returns all intervals with both ends among some ascending integers.
func between(ends ...int) []api.Span {
	var l []api.Span
	for i, from := range ends {
		for _, to := range ends[i+1:] {
			l = append(l, span(from, to))
		}
	}
	return l
}

// small returns the intervals between -3 and 6: two of them stand to one another in any way that there is.
func small() []api.Span { return between(-3, -2, -1, 0, 1, 2, 3, 4, 5, 6) }

// large returns intervals that reach over the line, or lie at its ends.
func large() []api.Span {
	return between(-line, -line+1, -line+2, -1<<33, -1<<31, -1, 0, 1, 1<<31, 1<<33, line-2, line-1, line)
}

// pairs calls a function with all pairs of small, and all pairs of large intervals.
func pairs(see func(a, b api.Span)) {
	for _, l := range [][]api.Span{small(), large()} {
		for _, a := range l {
			for _, b := range l {
				see(a, b)
			}
		}
	}
}

// integers returns those from -4 to 7 that are in one of some intervals; all that small intervals contain are among them.
func integers(l ...api.Span) []int {
	var found []int
	for x := -4; x <= 7; x++ {
		if slices.ContainsFunc(l, func(s api.Span) bool { return s.From <= x && x < s.To }) {
			found = append(found, x)
		}
	}
	return found
}

func TestP101Valid(t *testing.T) {
	for _, s := range append(small(), large()...) {
		if !Valid(s) || Length(s) != s.To-s.From {
			t.Errorf("Valid(%v) = %t, Length = %d", s, Valid(s), Length(s))
		}
	}
	for _, s := range invalid {
		if Valid(s) || Length(s) != 0 {
			t.Errorf("Valid(%v) = %t, Length = %d", s, Valid(s), Length(s))
		}
	}
}

// TestP101EveryEnd has intervals with any two strange ends.
func TestP101EveryEnd(t *testing.T) {
	onLine := func(x int) bool { return x >= -line && x <= line }
	for _, from := range strange {
		for _, to := range strange {
			s := span(from, to)
			want := onLine(from) && onLine(to) && from < to
			if Valid(s) != want {
				t.Errorf("Valid(%v) = %t", s, Valid(s))
			}
			length := 0
			if want {
				length = to - from
			}
			if n := Length(s); n != length {
				t.Errorf("Length(%v) = %d; want %d", s, n, length)
			}
			for _, x := range strange {
				if Has(s, x) != (want && from <= x && x < to) {
					t.Errorf("Has(%v, %d) = %t", s, x, Has(s, x))
				}
			}
		}
	}
}

func TestP101Length(t *testing.T) {
	for _, c := range []struct {
		s api.Span
		n int
	}{
		{span(0, 1), 1}, {span(3, 5), 2}, {span(-5, 5), 10}, {span(-line, line), 1 << 43}, {span(line-1, line), 1}, {span(-line, -line+1), 1}, {span(0, line), 1 << 42},
	} {
		if n := Length(c.s); n != c.n {
			t.Errorf("Length(%v) = %d; want %d", c.s, n, c.n)
		}
	}
}

func TestP101Has(t *testing.T) {
	for _, s := range small() {
		n := 0
		for x := -10; x <= 10; x++ {
			if Has(s, x) {
				n++
			}
		}
		if n != Length(s) {
			t.Errorf("%v has %d integers, and the length %d", s, n, Length(s))
		}
	}
	for _, s := range large() {
		if !Has(s, s.From) || !Has(s, s.To-1) || Has(s, s.From-1) || Has(s, s.To) {
			t.Errorf("the first and the last integer of %v, or those beside", s)
		}
	}
	for _, s := range invalid {
		for _, x := range append(strange, s.From, s.To, s.To-1) {
			if Has(s, x) {
				t.Errorf("Has(%v, %d)", s, x)
			}
		}
	}
}

func TestP103Meet(t *testing.T) {
	for _, c := range []struct{ a, b, want api.Span }{
		{span(0, 10), span(5, 15), span(5, 10)}, {span(5, 15), span(0, 10), span(5, 10)}, {span(0, 10), span(3, 5), span(3, 5)}, {span(3, 5), span(0, 10), span(3, 5)}, {span(0, 4), span(0, 4), span(0, 4)}, {span(0, 5), span(4, 6), span(4, 5)},
		{span(0, 5), span(5, 6), api.Span{}}, {span(5, 6), span(0, 5), api.Span{}}, {span(0, 4), span(5, 6), api.Span{}}, {span(5, 6), span(0, 4), api.Span{}}, {span(-line, line), span(line-1, line), span(line-1, line)}, {span(-line, 0), span(0, line), api.Span{}}, {span(-line, 1), span(0, line), span(0, 1)},
	} {
		if m, ok := Meet(c.a, c.b); m != c.want || ok != (c.want != api.Span{}) {
			t.Errorf("Meet(%v, %v) = %v, %t; want %v", c.a, c.b, m, ok, c.want)
		}
	}
}

func TestP103Hull(t *testing.T) {
	for _, c := range []struct{ a, b, want api.Span }{
		{span(0, 2), span(5, 15), span(0, 15)}, {span(5, 15), span(0, 2), span(0, 15)}, {span(0, 10), span(3, 5), span(0, 10)}, {span(3, 5), span(0, 10), span(0, 10)}, {span(0, 4), span(0, 4), span(0, 4)}, {span(0, 4), span(4, 6), span(0, 6)}, {span(-line, -line+1), span(line-1, line), span(-line, line)},
	} {
		if h, e := Hull(c.a, c.b); h != c.want || e != api.OK {
			t.Errorf("Hull(%v, %v) = %v, %d; want %v", c.a, c.b, h, e, c.want)
		}
	}
}

func TestP103Minus(t *testing.T) {
	for _, c := range []struct {
		a, b api.Span
		want []api.Span
	}{
		{span(0, 10), span(3, 5), []api.Span{span(0, 3), span(5, 10)}}, {span(0, 10), span(0, 5), []api.Span{span(5, 10)}}, {span(0, 10), span(5, 10), []api.Span{span(0, 5)}}, {span(0, 10), span(-5, 5), []api.Span{span(5, 10)}}, {span(0, 10), span(5, 15), []api.Span{span(0, 5)}},
		{span(0, 10), span(-5, 50), nil}, {span(0, 10), span(0, 10), nil}, {span(0, 10), span(0, 11), nil}, {span(0, 10), span(-1, 10), nil}, {span(0, 10), span(20, 30), []api.Span{span(0, 10)}}, {span(0, 10), span(10, 30), []api.Span{span(0, 10)}}, {span(0, 10), span(-9, 0), []api.Span{span(0, 10)}}, {span(0, 10), span(-9, -1), []api.Span{span(0, 10)}},
		{span(-line, line), span(0, 1), []api.Span{span(-line, 0), span(1, line)}}, {span(-line, line), span(-line, line), nil}, {span(-line, line), span(-line+1, line-1), []api.Span{span(-line, -line+1), span(line-1, line)}},
	} {
		if l := Minus(c.a, c.b); !slices.Equal(l, c.want) {
			t.Errorf("Minus(%v, %v) = %v; want %v", c.a, c.b, l, c.want)
		}
	}
}

// TestP103EveryInteger looks at each integer of small intervals.
func TestP103EveryInteger(t *testing.T) {
	for _, a := range small() {
		for _, b := range small() {
			var both, rest []int
			for _, x := range integers(a) {
				if slices.Contains(integers(b), x) {
					both = append(both, x)
				} else {
					rest = append(rest, x)
				}
			}
			if m, ok := Meet(a, b); ok != (len(both) > 0) || ok != Valid(m) || !slices.Equal(integers(m), both) {
				t.Errorf("Meet(%v, %v) = %v, %t; want %v", a, b, m, ok, both)
			}
			l := Minus(a, b)
			if !slices.Equal(integers(l...), rest) || slices.ContainsFunc(l, func(s api.Span) bool { return !Valid(s) }) || len(l) > 2 || len(l) == 2 && l[0].To >= l[1].From {
				t.Errorf("Minus(%v, %v) = %v; want %v", a, b, l, rest)
			}
			all := slices.Sorted(slices.Values(append(integers(a), integers(b)...)))
			if h, e := Hull(a, b); e != api.OK || h != span(all[0], all[len(all)-1]+1) {
				t.Errorf("Hull(%v, %v) = %v, %d; want %v", a, b, h, e, all)
			}
		}
	}
}

func TestP103Invalid(t *testing.T) {
	refused := func(a, b api.Span) {
		t.Helper()
		if m, ok := Meet(a, b); m != (api.Span{}) || ok {
			t.Errorf("Meet(%v, %v) = %v, %t", a, b, m, ok)
		}
		if h, e := Hull(a, b); h != (api.Span{}) || e != api.ErrArg {
			t.Errorf("Hull(%v, %v) = %v, %d", a, b, h, e)
		}
		if l := Minus(a, b); len(l) != 0 {
			t.Errorf("Minus(%v, %v) = %v", a, b, l)
		}
	}
	for _, a := range invalid {
		for _, b := range []api.Span{span(0, 1), span(-3, 6), span(5, 9), span(-line, line), span(-line, -line+1), span(line-1, line)} {
			refused(a, b)
			refused(b, a)
		}
		for _, b := range invalid {
			refused(a, b)
		}
	}
}

// TestP103NewMemory changes a result, which changes no later one.
func TestP103NewMemory(t *testing.T) {
	l := Minus(span(0, 10), span(3, 5))
	l[0], l[1] = span(7, 8), span(8, 9)
	if again := Minus(span(0, 10), span(3, 5)); !slices.Equal(again, []api.Span{span(0, 3), span(5, 10)}) {
		t.Errorf("Minus = %v", again)
	}
}

func TestP104Examples(t *testing.T) {
	for _, c := range []struct {
		s    api.Span
		n    int
		want api.Span
		e    api.Errno
	}{
		{span(3, 5), -10, span(-7, -5), api.OK}, {span(3, 5), 10, span(13, 15), api.OK}, {span(3, 5), 0, span(3, 5), api.OK}, {span(3, 5), line - 5, span(line-2, line), api.OK}, {span(3, 5), line - 4, api.Span{}, api.ErrRange}, {span(3, 5), line - 3, api.Span{}, api.ErrRange}, {span(3, 5), line - 2, api.Span{}, api.ErrRange},
		{span(3, 5), -line - 3, span(-line, -line+2), api.OK}, {span(3, 5), -line - 4, api.Span{}, api.ErrRange}, {span(3, 5), -line - 5, api.Span{}, api.ErrRange}, {span(3, 5), -line - 6, api.Span{}, api.ErrRange}, {span(-line, line), 0, span(-line, line), api.OK}, {span(-line, line), 1, api.Span{}, api.ErrRange}, {span(-line, line), -1, api.Span{}, api.ErrRange},
		{span(-line, -line+1), 2*line - 1, span(line-1, line), api.OK}, {span(-line, -line+1), 2 * line, api.Span{}, api.ErrRange}, {span(line-1, line), 1 - 2*line, span(-line, -line+1), api.OK}, {span(line-1, line), -2 * line, api.Span{}, api.ErrRange},
		{span(3, 5), math.MaxInt, api.Span{}, api.ErrRange}, {span(3, 5), math.MaxInt - 3, api.Span{}, api.ErrRange}, {span(3, 5), math.MaxInt - 4, api.Span{}, api.ErrRange}, {span(3, 5), math.MinInt, api.Span{}, api.ErrRange}, {span(-5, -3), math.MinInt, api.Span{}, api.ErrRange}, {span(-5, -3), math.MinInt + 4, api.Span{}, api.ErrRange}, {span(-line, line), math.MinInt, api.Span{}, api.ErrRange}, {span(-line, line), math.MaxInt, api.Span{}, api.ErrRange},
	} {
		if m, e := Move(c.s, c.n); m != c.want || e != c.e {
			t.Errorf("Move(%v, %d) = %v, %d; want %v, %d", c.s, c.n, m, e, c.want, c.e)
		}
	}
}

// TestP104Bounds moves each interval as far as it can be moved, and farther.
func TestP104Bounds(t *testing.T) {
	for _, s := range append(small(), large()...) {
		for _, n := range append(strange, line-s.To-1, line-s.To, line-s.To+1, line-s.From, -line-s.From-1, -line-s.From, -line-s.From+1, -line-s.To) {
			want, wantError := api.Span{}, api.ErrRange
			if n <= line-s.To && n >= -line-s.From {
				want, wantError = span(s.From+n, s.To+n), api.OK
			}
			if m, e := Move(s, n); m != want || e != wantError {
				t.Errorf("Move(%v, %d) = %v, %d; want %v, %d", s, n, m, e, want, wantError)
			}
		}
	}
}

// TestP104ErrArgFirst moves what is no valid interval, also to places where it would be one, or beyond the line.
func TestP104ErrArgFirst(t *testing.T) {
	for _, s := range invalid {
		for _, n := range append(strange, -s.From, -s.To, line-s.To, -line-s.From) {
			if m, e := Move(s, n); m != (api.Span{}) || e != api.ErrArg {
				t.Errorf("Move(%v, %d) = %v, %d", s, n, m, e)
			}
		}
	}
}

func TestP106Parts(t *testing.T) {
	pairs(func(a, b api.Span) {
		parts := Minus(a, b)
		common, ok := Meet(a, b)
		if ok {
			parts = append(parts, common)
		}
		slices.SortFunc(parts, func(x, y api.Span) int { return x.From - y.From })
		// The parts are those of a if one begins where the one before ends.
		end := a.From
		for _, part := range parts {
			if !Valid(part) || part.From != end {
				t.Errorf("the parts of %v by %v are %v", a, b, parts)
			}
			end = part.To
		}
		if end != a.To {
			t.Errorf("the parts of %v by %v are %v", a, b, parts)
		}
		back, okBack := Meet(b, a)
		if back != common || okBack != ok {
			t.Errorf("Meet(%v, %v) = %v, %t", b, a, back, okBack)
		}
	})
}

func TestP106Hull(t *testing.T) {
	pairs(func(a, b api.Span) {
		h, e := Hull(a, b)
		if back, _ := Hull(b, a); e != api.OK || back != h {
			t.Errorf("Hull(%v, %v) = %v, %d; the other way %v", a, b, h, e, back)
		}
		if Length(h) < Length(a) || Length(h) < Length(b) || len(Minus(a, h)) > 0 || len(Minus(b, h)) > 0 {
			t.Errorf("the hull %v of %v and %v", h, a, b)
		}
		common, _ := Meet(a, b)
		if Length(h) > Length(a)+Length(b)-Length(common) != (Of(a, b) == 0 || Of(a, b) == 12) {
			t.Errorf("the hull %v of %v and %v, with %v in common", h, a, b, common)
		}
	})
}

// TestP1 calls every function with all numbers that may be dangerous: none of them panics, and with an error the other results are zero.
func TestP1(t *testing.T) {
	spans := slices.Clone(invalid)
	for _, from := range strange {
		for _, to := range strange {
			spans = append(spans, span(from, to))
		}
		Inverse(from)
		Name(from)
	}
	for i, a := range spans {
		for _, x := range strange {
			if m, e := Move(a, x); e != api.OK && m != (api.Span{}) {
				t.Errorf("Move(%v, %d) = %v, %d", a, x, m, e)
			}
		}
		for _, b := range spans[i%7:] {
			valid := Valid(a) && Valid(b)
			m, ok := Meet(a, b)
			h, e := Hull(a, b)
			if (e == api.OK) != valid || (Of(a, b) >= 0) != valid || !valid && (h != api.Span{}) || !ok && (m != api.Span{}) || !valid && len(Minus(a, b)) > 0 {
				t.Fatalf("%v and %v: %v, %t, %v, %d, %d", a, b, m, ok, h, e, Of(a, b))
			}
		}
	}
}
