package allen

import (
	"testing"

	"civiltime/api"
	"civiltime/interval"
)

// placeOf returns the place of an end of an interval among the ends of b.
func placeOf(x int, b api.Span) int {
	switch {
	case x < b.From:
		return 1
	case x == b.From:
		return 2
	case x < b.To:
		return 3
	case x == b.To:
		return 4
	}
	return 5
}

// convexSets are the empty set, and those of all relations with places in some bounds.
func convexSets() map[int]bool {
	sets := map[int]bool{0: true}
	// It is long enough for others inside, so that the intervals from -2 to 10 stand to it in each relation.
	b := span(2, 5)
	for p := 1; p <= 5; p++ {
		for q := p; q <= 5; q++ {
			for u := 1; u <= 5; u++ {
				for v := u; v <= 5; v++ {
					set := 0
					for _, a := range within(-2, 10) {
						first, second := placeOf(a.From, b), placeOf(a.To, b)
						if p <= first && first <= q && u <= second && second <= v {
							set |= 1 << interval.Of(a, b)
						}
					}
					sets[set] = true
				}
			}
		}
	}
	return sets
}

func TestP114Convex(t *testing.T) {
	for _, c := range []struct {
		set  int
		want bool
	}{
		{0, true}, {8191, true}, {setOf(0), true}, {setOf(12), true}, {setOf(6), true}, {setOf(0, 1), true}, {setOf(0, 2), false}, {setOf(0, 1, 2), true}, {setOf(0, 12), false}, {setOf(2, 4), false}, {setOf(2, 3, 4), true}, {setOf(3, 4), true}, {setOf(3, 5), false}, {setOf(2, 8), false}, {setOf(2, 7, 8), true}, {setOf(4, 6), false}, {setOf(3, 4, 5, 6), true}, {setOf(2, 3, 4, 5, 6, 7, 8, 9, 10), true}, {8191 - setOf(6), false}, {8191 - setOf(1), false}, {8191 - setOf(8), false},
		// Only before has a second place of 1, and only after a first place of 5.
		{8190, true}, {4095, true}, {4094, true}, {8191 - setOf(0, 1), true}, {8191 - setOf(0, 2), false},
	} {
		if Convex(c.set) != c.want {
			t.Errorf("Convex(%d) = %t", c.set, !c.want)
		}
	}
}

func TestP114ByDefinition(t *testing.T) {
	want := convexSets()
	if len(want) != 83 {
		t.Errorf("%d convex sets", len(want))
	}
	for set := range 8192 {
		if Convex(set) != want[set] {
			t.Errorf("Convex(%d) = %t", set, Convex(set))
		}
	}
	for _, set := range noSets {
		if Convex(set) {
			t.Errorf("Convex(%d)", set)
		}
	}
}

func TestP116Convex(t *testing.T) {
	for a := range convexSets() {
		if !Convex(Inverse(a)) {
			t.Errorf("Inverse(%d) = %d is not convex", a, Inverse(a))
		}
		for b := range convexSets() {
			if !Convex(a&b) || !Convex(Compose(a, b)) {
				t.Errorf("%d and %d: the common relations %d, the composition %d", a, b, a&b, Compose(a, b))
			}
		}
	}
}
