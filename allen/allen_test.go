package allen

import (
	"math"
	"slices"
	"testing"

	"civiltime/api"
	"civiltime/interval"
)

const line = api.MaxLine

func span(from, to int) api.Span { return api.Span{From: from, To: to} }

// within returns all intervals from the first to the last of some integers.
func within(first, last int) []api.Span {
	var l []api.Span
	for from := first; from < last; from++ {
		for to := from + 1; to <= last; to++ {
			l = append(l, span(from, to))
		}
	}
	return l
}

// noSets are numbers that are no sets; some of them have bits of sets.
var noSets = []int{
	math.MinInt, math.MinInt + 1, math.MinInt + 8191, -1 << 32, -8193, -8192, -8191, -13, -2, -1,
	8192, 8193, 8192 + 64, 16383, 16384, 65535, 65536, 1 << 31, 1<<32 + 1, 1<<32 + 8191, 1 << 62, math.MaxInt - 8191, math.MaxInt - 1, math.MaxInt,
}

// noSpans are no valid intervals.
var noSpans = []api.Span{
	span(0, 0), span(3, 3), span(5, 3), span(0, -1), span(line, line), span(-line, -line), span(0, line+1), span(line, line+1), span(-line-1, 0), span(-line-1, -line), span(-line-1, line+1),
	span(math.MinInt, math.MaxInt), span(math.MaxInt, math.MinInt), span(math.MinInt, 0), span(0, math.MaxInt), span(math.MaxInt-1, math.MaxInt),
}

// setOf returns the set of some relations.
func setOf(relations ...int) int {
	set := 0
	for _, r := range relations {
		set += 1 << r
	}
	return set
}

// listOf returns the relations of a set by division.
func listOf(set int) []int {
	var l []int
	for r := range 13 {
		if set%2 == 1 {
			l = append(l, r)
		}
		set /= 2
	}
	return l
}

// someSets are sets of all kinds: without and with all relations, with one, without one, with some in a row, and others at a distance of 37.
func someSets() []int {
	sets := []int{0, 8191}
	for r := range 13 {
		sets = append(sets, 1<<r, 8191-1<<r)
		for s := r + 2; s < 13; s++ {
			sets = append(sets, 1<<s-1<<r)
		}
	}
	for set := 5; set < 8191; set += 37 {
		sets = append(sets, set)
	}
	return sets
}

func TestP111Full(t *testing.T) {
	if Full() != 8191 {
		t.Errorf("Full() = %d", Full())
	}
}

func TestP111Singles(t *testing.T) {
	for _, c := range []struct {
		set  int
		want []int
	}{
		{0, nil}, {1, []int{0}}, {2, []int{1}}, {4096, []int{12}}, {4100, []int{2, 12}}, {31, []int{0, 1, 2, 3, 4}}, {8191, []int{0, 1, 2, 3, 4, 5, 6, 7, 8, 9, 10, 11, 12}},
	} {
		if l := Singles(c.set); !slices.Equal(l, c.want) {
			t.Errorf("Singles(%d) = %v; want %v", c.set, l, c.want)
		}
	}
	for set := range 8192 {
		if l := Singles(set); !slices.Equal(l, listOf(set)) {
			t.Errorf("Singles(%d) = %v; want %v", set, l, listOf(set))
		}
	}
	for _, set := range noSets {
		if l := Singles(set); len(l) != 0 {
			t.Errorf("Singles(%d) = %v", set, l)
		}
	}
}

// TestP111NewLists changes the lists, which changes no later ones.
func TestP111NewLists(t *testing.T) {
	for range 2 {
		singles, spans := Singles(8191), Possible(8191, span(0, 1), 0, 3)
		if !slices.Equal(singles, listOf(8191)) || !slices.Equal(spans, within(0, 3)) {
			t.Fatalf("Singles(8191) = %v, Possible = %v", singles, spans)
		}
		clear(singles)
		clear(spans)
	}
}

func TestP111Inverse(t *testing.T) {
	for set := range 8192 {
		want := 0
		for _, r := range listOf(set) {
			want += 1 << (12 - r)
		}
		if n := Inverse(set); n != want || Inverse(n) != set {
			t.Errorf("Inverse(%d) = %d; want %d", set, n, want)
		}
	}
	for _, set := range noSets {
		if n := Inverse(set); n != -1 {
			t.Errorf("Inverse(%d) = %d", set, n)
		}
	}
}

func TestP112Holds(t *testing.T) {
	for _, c := range []struct {
		set  int
		a, b api.Span
		want bool
	}{
		{setOf(1, 2), span(0, 3), span(3, 5), true}, {setOf(0, 2), span(0, 3), span(3, 5), false}, {setOf(11), span(3, 5), span(0, 3), true}, {setOf(6), span(0, 3), span(0, 3), true}, {8191 - setOf(6), span(0, 3), span(0, 3), false}, {0, span(0, 3), span(3, 5), false}, {8191, span(0, 3), span(3, 5), true},
		{setOf(0), span(-line, -line+1), span(line-1, line), true}, {setOf(12), span(line-1, line), span(-line, -line+1), true}, {setOf(8), span(-line, line), span(0, 1), true}, {setOf(6), span(-line, line), span(-line, line), true}, {setOf(0), span(line-1, line), span(-line, -line+1), false},
	} {
		if Holds(c.set, c.a, c.b) != c.want {
			t.Errorf("Holds(%d, %v, %v) = %t", c.set, c.a, c.b, !c.want)
		}
	}
}

// TestP112HoldsAll has all sets and each relation, between intervals in many places.
func TestP112HoldsAll(t *testing.T) {
	seen := 0
	for _, a := range within(-2, 3) {
		for _, b := range within(-2, 3) {
			r := interval.Of(a, b)
			seen |= 1 << r
			for set := range 8192 {
				if Holds(set, a, b) != slices.Contains(listOf(set), r) {
					t.Errorf("Holds(%d, %v, %v) = %t", set, a, b, Holds(set, a, b))
				}
			}
		}
	}
	if seen != 8191 {
		t.Errorf("the relations seen: %d", seen)
	}
}

func TestP112HoldsInvalid(t *testing.T) {
	for _, set := range noSets {
		for _, a := range within(0, 4) {
			for _, b := range within(0, 4) {
				if Holds(set, a, b) {
					t.Errorf("Holds(%d, %v, %v)", set, a, b)
				}
			}
		}
	}
	for _, a := range noSpans {
		for _, b := range append([]api.Span{span(0, 1), span(-3, 6), span(-line, line)}, noSpans...) {
			for _, set := range append(someSets(), noSets...) {
				if Holds(set, a, b) || Holds(set, b, a) {
					t.Errorf("Holds(%d, %v, %v)", set, a, b)
				}
			}
		}
	}
}
