package runs

import (
	"math"
	"slices"
	"testing"

	"civiltime/api"
)

// places are the integers at the ends of the spans of a list, and beside them, and strange ones.
func places(l []api.Span) []int {
	at := slices.Clone(strange)
	for _, s := range l {
		at = append(at, s.From-1, s.From, s.From+1, s.From+(s.To-s.From)/2, s.To-1, s.To, s.To+1)
	}
	return at
}

// below returns the number of the elements of a list that are less than x, by its definition: those of each span.
func below(l []api.Span, x int) int {
	n := 0
	for _, s := range l {
		n += max(s.From, min(x, s.To)) - s.From
	}
	return n
}

func TestP124Examples(t *testing.T) {
	a := list(0, 4, 6, 8)
	for _, c := range []struct {
		x    int
		has  bool
		rank int
	}{
		{math.MinInt, false, 0}, {-1, false, 0}, {0, true, 0}, {1, true, 1}, {3, true, 3}, {4, false, 4}, {5, false, 4}, {6, true, 4}, {7, true, 5}, {8, false, 6}, {100, false, 6}, {line, false, 6}, {math.MaxInt, false, 6},
	} {
		if Has(a, c.x) != c.has || Rank(a, c.x) != c.rank {
			t.Errorf("Has(%v, %d) = %t, Rank = %d", a, c.x, Has(a, c.x), Rank(a, c.x))
		}
	}
	for _, c := range []struct {
		a []api.Span
		n int
	}{
		{nil, 0}, {[]api.Span{}, 0}, {a, 6}, {list(0, 1), 1}, {list(-5, 5), 10}, {list(-line, line), 1 << 43}, {list(line-1, line), 1}, {list(-line, -line+1, line-1, line), 2}, {list(-line, 0, 1, line), 1<<43 - 1}, {row(full, 0, 2, 1), full}, {row(full, -line, 10, 7), 7 * full},
	} {
		if n := Measure(c.a); n != c.n {
			t.Errorf("Measure(%.80v) = %d; want %d", c.a, n, c.n)
		}
	}
}

// TestP124ByDefinition has all small sets, and the bits of their cells.
func TestP124ByDefinition(t *testing.T) {
	for _, s := range scales {
		for set := range 1 << cells {
			a, n := s.list(set), 0
			for c := range cells {
				has := set>>c&1 == 1
				for _, in := range []int{0, s.width / 2, s.width - 1} {
					rank := n
					if has {
						rank += in
					}
					if x := s.first + c*s.width + in; Has(a, x) != has || Rank(a, x) != rank {
						t.Errorf("Has(%v, %d) = %t, Rank = %d; want %t, %d", a, x, Has(a, x), Rank(a, x), has, rank)
					}
				}
				if has {
					n += s.width
				}
			}
			if Measure(a) != n {
				t.Errorf("Measure(%v) = %d; want %d", a, Measure(a), n)
			}
			for _, x := range []int{math.MinInt, -2 * line, -line - 1, s.first - 1, s.window().To, line, line + 1, math.MaxInt} {
				rank := 0
				if x >= s.window().To {
					rank = n
				}
				if Has(a, x) || Rank(a, x) != rank {
					t.Errorf("Has(%v, %d) = %t, Rank = %d; want %d", a, x, Has(a, x), Rank(a, x), rank)
				}
			}
		}
	}
}

// TestP124Lists has all places of longer lists.
func TestP124Lists(t *testing.T) {
	for i, a := range someLists() {
		if Measure(a) != below(a, math.MaxInt) {
			t.Errorf("Measure of the list %d = %d", i, Measure(a))
		}
		for _, x := range places(a) {
			has := slices.ContainsFunc(a, func(s api.Span) bool { return s.From <= x && x < s.To })
			if Has(a, x) != has || Rank(a, x) != below(a, x) {
				t.Fatalf("Has of the list %d and %d = %t, Rank = %d; want %t, %d", i, x, Has(a, x), Rank(a, x), has, below(a, x))
			}
		}
	}
}

// TestP124Invalid has no elements in lists that are not canonical.
func TestP124Invalid(t *testing.T) {
	for _, a := range noLists() {
		if n := Measure(a); n != 0 {
			t.Errorf("Measure(%.80v) = %d", a, n)
		}
		for _, x := range places(a[:min(len(a), 5)]) {
			if Has(a, x) || Rank(a, x) != 0 {
				t.Errorf("Has(%.80v, %d) = %t, Rank = %d", a, x, Has(a, x), Rank(a, x))
			}
		}
	}
}

func TestP125Nth(t *testing.T) {
	for _, c := range []struct {
		a    []api.Span
		n, x int
		e    api.Errno
	}{
		{list(0, 4, 6, 8), 0, 0, api.OK}, {list(0, 4, 6, 8), 3, 3, api.OK}, {list(0, 4, 6, 8), 4, 6, api.OK}, {list(0, 4, 6, 8), 5, 7, api.OK}, {list(0, 4, 6, 8), 6, 0, api.ErrRange}, {list(0, 4, 6, 8), -1, 0, api.ErrRange},
		{nil, 0, 0, api.ErrRange}, {[]api.Span{}, 0, 0, api.ErrRange}, {nil, -1, 0, api.ErrRange}, {nil, math.MinInt, 0, api.ErrRange}, {nil, math.MaxInt, 0, api.ErrRange},
		{list(-line, line), 0, -line, api.OK}, {list(-line, line), line, 0, api.OK}, {list(-line, line), 2*line - 1, line - 1, api.OK}, {list(-line, line), 2 * line, 0, api.ErrRange}, {list(-line, -line+1, line-1, line), 1, line - 1, api.OK}, {list(-line, -line+1, line-1, line), 2, 0, api.ErrRange}, {list(-9, -8, -7, -6, -5, -4), 1, -7, api.OK}, {list(-9, -8, -7, -6, -5, -4), 2, -5, api.OK},
		{row(full, 0, 2, 1), full - 1, 2*full - 2, api.OK}, {row(full, 0, 2, 1), full, 0, api.ErrRange}, {list(5, 6), math.MaxInt, 0, api.ErrRange}, {list(5, 6), math.MinInt, 0, api.ErrRange}, {list(-6, -5), -1, 0, api.ErrRange},
	} {
		if x, e := Nth(c.a, c.n); x != c.x || e != c.e {
			t.Errorf("Nth(%.80v, %d) = %d, %d; want %d, %d", c.a, c.n, x, e, c.x, c.e)
		}
	}
}

// TestP125EveryElement has all elements of lists that are not long.
func TestP125EveryElement(t *testing.T) {
	lists := [][]api.Span{row(full, 0, 2, 1), row(full, -line, 2, 1), row(full-1, -5, 10, 9)}
	for _, s := range scales[:3] {
		for set := range 1 << cells {
			lists = append(lists, s.list(set))
		}
	}
	for _, a := range lists {
		var elements []int
		for _, s := range a {
			for x := s.From; x < s.To; x++ {
				elements = append(elements, x)
			}
		}
		// With a distance of 13 in long lists.
		for n := 0; n < len(elements); n += 1 + len(elements)/1000*12 {
			if x, e := Nth(a, n); x != elements[n] || e != api.OK {
				t.Errorf("Nth(%.80v, %d) = %d, %d; want %d", a, n, x, e, elements[n])
			}
		}
		for _, n := range []int{math.MinInt, -line, -2, -1, len(elements), len(elements) + 1, line, 2 * line, math.MaxInt} {
			if x, e := Nth(a, n); x != 0 || e != api.ErrRange {
				t.Errorf("Nth(%.80v, %d) = %d, %d", a, n, x, e)
			}
		}
	}
}

func TestP125Next(t *testing.T) {
	for _, c := range []struct {
		a       []api.Span
		x, next int
		ok      bool
	}{
		{list(0, 4, 6, 8), math.MinInt, 0, true}, {list(0, 4, 6, 8), -5, 0, true}, {list(0, 4, 6, 8), 0, 0, true}, {list(0, 4, 6, 8), 3, 3, true}, {list(0, 4, 6, 8), 4, 6, true}, {list(0, 4, 6, 8), 5, 6, true}, {list(0, 4, 6, 8), 6, 6, true}, {list(0, 4, 6, 8), 7, 7, true}, {list(0, 4, 6, 8), 8, 0, false}, {list(0, 4, 6, 8), math.MaxInt, 0, false},
		{nil, 0, 0, false}, {[]api.Span{}, 0, 0, false}, {nil, math.MinInt, 0, false}, {list(-line, line), math.MinInt, -line, true}, {list(-line, line), -line - 1, -line, true}, {list(-line, line), -line, -line, true}, {list(-line, line), line - 1, line - 1, true}, {list(-line, line), line, 0, false}, {list(-9, -4), -5, -5, true}, {list(-9, -4), -4, 0, false}, {list(-9, -4), 0, 0, false}, {list(5, 6), math.MaxInt, 0, false},
	} {
		if next, ok := Next(c.a, c.x); next != c.next || ok != c.ok {
			t.Errorf("Next(%v, %d) = %d, %t; want %d, %t", c.a, c.x, next, ok, c.next, c.ok)
		}
	}
}

// TestP125NextByDefinition has all places of small sets and of longer lists.
func TestP125NextByDefinition(t *testing.T) {
	lists := someLists()
	for _, s := range scales {
		for set := range 1 << cells {
			lists = append(lists, s.list(set))
		}
	}
	for _, a := range lists {
		for _, x := range places(a) {
			want, wantOK := 0, false
			for _, s := range slices.Backward(a) {
				if x < s.To {
					want, wantOK = max(x, s.From), true
				}
			}
			if next, ok := Next(a, x); next != want || ok != wantOK {
				t.Fatalf("Next(%.80v, %d) = %d, %t; want %d, %t", a, x, next, ok, want, wantOK)
			}
		}
	}
}

func TestP125Invalid(t *testing.T) {
	for _, a := range noLists() {
		for _, x := range places(a[:min(len(a), 5)]) {
			if n, e := Nth(a, x); n != 0 || e != api.ErrArg {
				t.Errorf("Nth(%.80v, %d) = %d, %d", a, x, n, e)
			}
			if next, ok := Next(a, x); next != 0 || ok {
				t.Errorf("Next(%.80v, %d) = %d, %t", a, x, next, ok)
			}
		}
	}
}
