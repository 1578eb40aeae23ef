package allen

import (
	"math"
	"testing"

	"civiltime/interval"
)

// found are the compositions by definition: of the relations between all intervals that a list contains.
func found(first, last int) (table [13][13]int) {
	l := within(first, last)
	for _, x := range l {
		for _, y := range l {
			for _, z := range l {
				table[interval.Of(x, y)][interval.Of(y, z)] |= 1 << interval.Of(x, z)
			}
		}
	}
	return table
}

// composed returns the composition of two sets, from that of each two relations.
func composed(table *[13][13]int, a, b int) int {
	set := 0
	for _, r := range listOf(a) {
		for _, s := range listOf(b) {
			set |= table[r][s]
		}
	}
	return set
}

func TestP112Basic(t *testing.T) {
	for _, c := range []struct{ a, b, want int }{
		{0, 4, 31}, {0, 0, setOf(0)}, {0, 12, 8191}, {12, 0, 8191}, {4, 8, 8191}, {8, 4, setOf(2, 3, 4, 5, 6, 7, 8, 9, 10)}, {1, 1, setOf(0)}, {1, 11, setOf(5, 6, 7)}, {2, 4, setOf(2, 3, 4)}, {2, 2, setOf(0, 1, 2)}, {6, 9, setOf(9)}, {10, 6, setOf(10)}, {9, 3, setOf(3, 6, 9)}, {7, 5, setOf(5, 6, 7)}, {3, 7, setOf(0, 1, 2)}, {12, 12, setOf(12)},
	} {
		if set := Basic(c.a, c.b); set != c.want {
			t.Errorf("Basic(%d, %d) = %d; want %d", c.a, c.b, set, c.want)
		}
	}
}

// TestP112BasicByDefinition also sees that intervals between 0 and 5 suffice.
func TestP112BasicByDefinition(t *testing.T) {
	want := found(0, 5)
	if more := found(-4, 4); more != want {
		t.Errorf("compositions of more intervals: %v; of those between 0 and 5: %v", more, want)
	}
	for a := range 13 {
		for b := range 13 {
			if set := Basic(a, b); set != want[a][b] {
				t.Errorf("Basic(%d, %d) = %d; want %d", a, b, set, want[a][b])
			}
		}
	}
}

func TestP112BasicInvalid(t *testing.T) {
	for _, r := range []int{math.MinInt, -1 << 32, -13, -12, -1, 13, 14, 64, 255, 256, 8191, 1<<32 + 1, math.MaxInt} {
		for s := -2; s < 15; s++ {
			if Basic(r, s) != -1 || Basic(s, r) != -1 || Basic(r, r) != -1 {
				t.Errorf("Basic(%d, %d) = %d, or the other way: %d", r, s, Basic(r, s), Basic(s, r))
			}
		}
	}
}

// TestP111ComposeByDefinition has single relations with all sets, and pairs of sets of all kinds.
func TestP111ComposeByDefinition(t *testing.T) {
	table := found(0, 5)
	see := func(a, b int) {
		if set := Compose(a, b); set != composed(&table, a, b) {
			t.Errorf("Compose(%d, %d) = %d; want %d", a, b, set, composed(&table, a, b))
		}
	}
	for set := range 8192 {
		for r := range 13 {
			see(set, 1<<r)
			see(1<<r, set)
		}
		see(0, set)
		see(set, 0)
		see(8191, set)
		see(set, 8191)
	}
	for _, a := range someSets() {
		for _, b := range someSets() {
			see(a, b)
		}
	}
}

func TestP111ComposeInvalid(t *testing.T) {
	for _, set := range noSets {
		for _, other := range append(someSets(), noSets...) {
			if Compose(set, other) != -1 || Compose(other, set) != -1 {
				t.Errorf("Compose(%d, %d) = %d; the other way %d", set, other, Compose(set, other), Compose(other, set))
			}
		}
	}
}

func TestP116Associative(t *testing.T) {
	see := func(a, b, c int) {
		if left, right := Compose(Compose(a, b), c), Compose(a, Compose(b, c)); left != right {
			t.Errorf("%d, %d, %d: %d or %d", a, b, c, left, right)
		}
	}
	for a := range 13 {
		for b := range 13 {
			for c := range 13 {
				see(1<<a, 1<<b, 1<<c)
			}
		}
	}
	sets := someSets()
	for i, a := range sets {
		for j, b := range sets[:i] {
			see(a, b, sets[j])
			see(sets[len(sets)-1-j], a, b)
		}
	}
}

func TestP116Distributes(t *testing.T) {
	sets := someSets()
	for i, a := range sets {
		for j, b := range sets {
			c := sets[(i*j+i+1)%len(sets)]
			if Compose(a, b|c) != Compose(a, b)|Compose(a, c) || Compose(b|c, a) != Compose(b, a)|Compose(c, a) {
				t.Errorf("%d with the union of %d and %d", a, b, c)
			}
		}
	}
}

func TestP116Unit(t *testing.T) {
	equals := setOf(6)
	for set := range 8192 {
		if Compose(set, equals) != set || Compose(equals, set) != set {
			t.Errorf("%d with equals: %d, and %d", set, Compose(set, equals), Compose(equals, set))
		}
	}
}

func TestP116Inverse(t *testing.T) {
	for _, a := range someSets() {
		for _, b := range someSets() {
			if Inverse(Compose(a, b)) != Compose(Inverse(b), Inverse(a)) {
				t.Errorf("%d and %d: %d; the inverses: %d", a, b, Inverse(Compose(a, b)), Compose(Inverse(b), Inverse(a)))
			}
		}
	}
}

// TestP116Third has all intervals in a small span, and others that reach over the line.
func TestP116Third(t *testing.T) {
	l := append(within(-3, 3), span(-line, line), span(-line, 0), span(0, line), span(-line, -line+1), span(line-1, line))
	for _, x := range l {
		for _, y := range l {
			for _, z := range l {
				if along := Compose(1<<interval.Of(x, y), 1<<interval.Of(y, z)); !Holds(along, x, z) {
					t.Errorf("from %v to %v along %v: %d", x, z, y, along)
				}
			}
		}
	}
}
