package allen

import (
	"math"
	"slices"
	"testing"

	"civiltime/api"
	"civiltime/interval"
)

// standing returns the intervals within a span from which a set holds to a.
func standing(set int, a api.Span, lo, hi int) []api.Span {
	return slices.DeleteFunc(within(lo, hi), func(s api.Span) bool { return !slices.Contains(listOf(set), interval.Of(s, a)) })
}

func TestP115Examples(t *testing.T) {
	for _, c := range []struct {
		set    int
		a      api.Span
		lo, hi int
		want   []api.Span
	}{
		{setOf(1, 3), span(2, 4), 0, 5, []api.Span{span(0, 2), span(1, 2), span(2, 3)}},
		{setOf(8), span(2, 4), 1, 5, []api.Span{span(1, 5)}}, {setOf(8), span(2, 4), 2, 5, nil}, {setOf(6), span(2, 4), 2, 4, []api.Span{span(2, 4)}}, {setOf(6), span(2, 4), 2, 3, nil}, {setOf(6), span(2, 4), 3, 5, nil},
		{setOf(0), span(2, 4), 0, 5, []api.Span{span(0, 1)}}, {setOf(12), span(2, 4), 0, 7, []api.Span{span(5, 6), span(5, 7), span(6, 7)}}, {0, span(2, 4), 0, 5, nil}, {8191, span(2, 4), 7, 8, []api.Span{span(7, 8)}}, {8191, span(2, 4), -1, 1, []api.Span{span(-1, 0), span(-1, 1), span(0, 1)}},
		{setOf(0), span(line-1, line), -line, -line + 2, []api.Span{span(-line, -line+1), span(-line, -line+2), span(-line+1, -line+2)}}, {setOf(5, 6), span(-line, line), line - 2, line, []api.Span{span(line-2, line), span(line-1, line)}}, {setOf(11), span(-line, line-1), line - 3, line, []api.Span{span(line-1, line)}},
	} {
		if l := Possible(c.set, c.a, c.lo, c.hi); !slices.Equal(l, c.want) {
			t.Errorf("Possible(%d, %v, %d, %d) = %v; want %v", c.set, c.a, c.lo, c.hi, l, c.want)
		}
	}
}

// TestP115ByDefinition has intervals inside, outside, and across of small spans.
func TestP115ByDefinition(t *testing.T) {
	for _, set := range someSets() {
		for _, a := range append(within(0, 5), span(-9, 20), span(-line, line), span(-9, 2), span(3, line)) {
			for lo := -2; lo <= 4; lo += 2 {
				for hi := lo + 1; hi <= 7; hi += 2 {
					if l := Possible(set, a, lo, hi); !slices.Equal(l, standing(set, a, lo, hi)) {
						t.Errorf("Possible(%d, %v, %d, %d) = %v; want %v", set, a, lo, hi, l, standing(set, a, lo, hi))
					}
				}
			}
		}
	}
}

// TestP115Long has the longest spans, at both ends of the line and between.
func TestP115Long(t *testing.T) {
	for _, lo := range []int{-line, -line + 1, -40, -20, 0, 1, line - 41, line - 40} {
		for _, set := range []int{8191, setOf(6), setOf(2, 4, 10), setOf(0, 1, 11, 12), setOf(8)} {
			for _, a := range []api.Span{span(lo, lo+40), span(lo+3, lo+30), span(lo+20, lo+21), span(-line, line)} {
				for hi := lo + 38; hi <= lo+40; hi++ {
					if l := Possible(set, a, lo, hi); !slices.Equal(l, standing(set, a, lo, hi)) {
						t.Errorf("Possible(%d, %v, %d, %d) = %v", set, a, lo, hi, l)
					}
				}
				for _, hi := range []int{lo + 41, lo + 42, lo + 80, lo + 1000, lo + line, math.MaxInt} {
					if l := Possible(set, a, lo, hi); len(l) != 0 {
						t.Errorf("Possible(%d, %v, %d, %d) has %d intervals", set, a, lo, hi, len(l))
					}
				}
			}
		}
	}
	if l := Possible(8191, span(2, 4), 0, 40); len(l) != 820 {
		t.Errorf("%d intervals", len(l))
	}
}

func TestP115Invalid(t *testing.T) {
	for _, set := range noSets {
		if l := Possible(set, span(2, 4), 0, 9); len(l) != 0 {
			t.Errorf("Possible(%d, ..) = %v", set, l)
		}
	}
	for _, a := range noSpans {
		for _, set := range append(someSets(), noSets...) {
			if l := Possible(set, a, -2, 6); len(l) != 0 {
				t.Errorf("Possible(%d, %v, ..) = %v", set, a, l)
			}
		}
	}
	for _, c := range [][2]int{
		{0, 0}, {3, 3}, {4, 3}, {9, 0}, {40, 0}, {-line - 1, -line + 3}, {-line - 1, -line}, {-line - 40, -line}, {-line - 9, -line - 3}, {line, line}, {-line, -line}, {line - 3, line + 1}, {line, line + 1}, {line + 1, line + 2}, {line, -line}, {-line, line},
		{math.MinInt, math.MaxInt}, {math.MinInt, math.MinInt + 5}, {math.MaxInt - 5, math.MaxInt}, {math.MaxInt, math.MinInt}, {math.MaxInt, math.MinInt + 20}, {math.MinInt, 0}, {0, math.MaxInt}, {0, math.MinInt}, {math.MaxInt, 0},
	} {
		for _, a := range []api.Span{span(0, 2), span(-line, line), span(-line, -line+2), span(line-2, line)} {
			if l := Possible(8191, a, c[0], c[1]); len(l) != 0 {
				t.Errorf("Possible(8191, %v, %d, %d) = %v", a, c[0], c[1], l)
			}
		}
	}
}
