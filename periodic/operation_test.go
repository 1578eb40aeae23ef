package periodic

import (
	"math"
	"math/big"
	"slices"
	"testing"

	"civiltime/api"
)

// operation is one of the three operations on two sets, and the same on the bits of cells.
type operation struct {
	name string
	of   func(a, b api.Periodic) (api.Periodic, api.Errno)
	bit  func(a, b bool) bool
}

func operations() []operation {
	return []operation{
		{"Union", Union, func(a, b bool) bool { return a || b }},
		{"Meet", Meet, func(a, b bool) bool { return a && b }},
		{"Minus", Minus, func(a, b bool) bool { return a && !b }},
	}
}

// conditions returns the error of the conditions of a pair of valid sets, and the least common multiple of their periods, by definition and with big integers.
func conditions(a, b api.Periodic) (int, api.Errno) {
	x, y := big.NewInt(int64(a.Period)), big.NewInt(int64(b.Period))
	m := new(big.Int).Mul(x, y)
	m.Div(m, new(big.Int).GCD(nil, nil, x, y))
	if m.Cmp(big.NewInt(most)) > 0 {
		return 0, api.ErrBig
	}
	period := int(m.Int64())
	if period/a.Period*len(a.L)+period/b.Period*len(b.L) > full {
		return 0, api.ErrFull
	}
	return period, api.OK
}

// checkPair compares all operations on two patterns with cells of one width with what their bits say.
func checkPair(t *testing.T, a, b pattern) {
	t.Helper()
	cells := a.cells * b.cells
	_, want := conditions(a.set(), b.set())
	for _, o := range operations() {
		result := pattern{cells, 0, a.width}
		for c := range cells {
			if o.bit(a.has(c*a.width), b.has(c*a.width)) {
				result.bits |= 1 << c
			}
		}
		p, e := o.of(a.set(), b.set())
		if e != want || e != api.OK && !isZero(p) || e == api.OK && !same(p, result.set()) {
			t.Errorf("%s(%v, %v) = %v, %d; want %v, %d", o.name, a.set(), b.set(), p, e, result.set(), want)
		}
		if o.name != "Minus" {
			continue
		}
		if within, e := Within(a.set(), b.set()); e != want || within != (e == api.OK && result.bits == 0) {
			t.Errorf("Within(%v, %v) = %t, %d; want %t, %d", a.set(), b.set(), within, e, want == api.OK && result.bits == 0, want)
		}
	}
}

func TestP133Examples(t *testing.T) {
	for _, c := range []struct{ a, b, union, meet, minus api.Periodic }{
		{set(2, 0, 1), set(3, 0, 1), set(6, 0, 1, 2, 5), set(6, 0, 1), set(6, 2, 3, 4, 5)}, {set(3, 0, 1), set(2, 0, 1), set(6, 0, 1, 2, 5), set(6, 0, 1), set(6, 3, 4)}, {set(3, 0, 1), set(3, 0, 1), set(3, 0, 1), set(3, 0, 1), set(1)}, {set(2, 0, 1), set(2, 1, 2), set(1, 0, 1), set(1), set(2, 0, 1)},
		{set(7, 0, 2), set(1), set(7, 0, 2), set(1), set(7, 0, 2)}, {set(1), set(7, 0, 2), set(7, 0, 2), set(1), set(1)}, {set(7, 0, 2), set(1, 0, 1), set(1, 0, 1), set(7, 0, 2), set(1)}, {set(1, 0, 1), set(7, 0, 2), set(1, 0, 1), set(7, 0, 2), set(7, 2, 7)}, {set(1), set(1), set(1), set(1), set(1)}, {set(1, 0, 1), set(1), set(1, 0, 1), set(1), set(1, 0, 1)},
		{set(24, 9, 17), set(168, 0, 120), set(168, 0, 120, 129, 137, 153, 161), set(168, 9, 17, 33, 41, 57, 65, 81, 89, 105, 113), set(168, 129, 137, 153, 161)}, {set(6, 0, 1, 3, 5), set(6, 3, 4), set(6, 0, 1, 3, 5), set(6, 3, 4), set(6, 0, 1, 4, 5)}, {set(6, 0, 1, 4, 5), set(6, 3, 4), set(6, 0, 1, 3, 5), set(1), set(6, 0, 1, 4, 5)}, {set(6, 0, 1), set(6, 3, 4), set(3, 0, 1), set(1), set(6, 0, 1)}, {set(6, 0, 1, 3, 5), set(6, 4, 5), set(6, 0, 1, 3, 5), set(6, 4, 5), set(3, 0, 1)}, {set(6, 0, 1, 3, 5), set(6, 0, 1, 3, 4, 5, 6), set(6, 0, 1, 3, 6), set(3, 0, 1), set(6, 4, 5)},
		{set(7, 0, 2, 5, 7), set(7, 2, 3, 6, 7), set(7, 0, 3, 5, 7), set(7, 6, 7), set(7, 0, 2, 5, 6)}, {set(most, 0, 1), set(most, 1, most), set(1, 0, 1), set(1), set(most, 0, 1)}, {set(most, 0, 1), set(most/2, 0, 1), set(most/2, 0, 1), set(most, 0, 1), set(1)},
	} {
		for i, want := range []api.Periodic{c.union, c.meet, c.minus} {
			if p, e := operations()[i].of(c.a, c.b); e != api.OK || !same(p, want) {
				t.Errorf("%s(%v, %v) = %v, %d; want %v", operations()[i].name, c.a, c.b, p, e, want)
			}
		}
		if within, e := Within(c.a, c.b); e != api.OK || within != (len(c.minus.L) == 0) {
			t.Errorf("Within(%v, %v) = %t, %d", c.a, c.b, within, e)
		}
	}
}

// TestP133ByDefinition has all pairs of patterns of up to six cells, and those of eight cells with each other.
func TestP133ByDefinition(t *testing.T) {
	patterns(6, func(a pattern) {
		patterns(6, func(b pattern) { checkPair(t, a, b) })
	})
	for a := range 1 << 8 {
		for b := range 1 << 8 {
			p, e := Union(pattern{8, a, 1}.set(), pattern{8, b, 1}.set())
			q, f := Meet(pattern{8, a, 1}.set(), pattern{8, b, 1}.set())
			r, g := Minus(pattern{8, a, 1}.set(), pattern{8, b, 1}.set())
			if e != api.OK || f != api.OK || g != api.OK || !same(p, pattern{8, a | b, 1}.set()) || !same(q, pattern{8, a & b, 1}.set()) || !same(r, pattern{8, a &^ b, 1}.set()) {
				t.Errorf("the patterns %b and %b: %v, %v, %v", a, b, p, q, r)
			}
		}
	}
}

// TestP133Wide has all pairs of patterns of up to five cells, with wide cells; with the widest ones, some periods are too long, and the set of all integers has too many spans.
func TestP133Wide(t *testing.T) {
	for _, width := range []int{100, 300, 900, 1999, 2001, most / 60, most / 12, most / 5} {
		patterns(5, func(a pattern) {
			patterns(5, func(b pattern) {
				checkPair(t, pattern{a.cells, a.bits, width}, pattern{b.cells, b.bits, width})
			})
		})
	}
}

// TestP133Points has all pairs of sets of all kinds, and compares results with both sets near the ends of all spans, and at other places.
func TestP133Points(t *testing.T) {
	sets := someSets()
	for i, a := range sets {
		for j, b := range sets {
			period, want := conditions(a, b)
			points := slices.Clone(strange)
			for _, p := range []api.Periodic{a, b} {
				for k := 0; k < len(p.L); k += 1 + len(p.L)/5 {
					points = append(points, p.L[k].From-1, p.L[k].From, p.L[k].To-1, p.L[k].To, period+p.L[k].From, period-p.L[k].To)
				}
			}
			for _, o := range operations() {
				p, e := o.of(a, b)
				if e != want || e != api.OK && !isZero(p) || e == api.OK && !Valid(p) {
					t.Errorf("%s of the sets %d and %d = %.80v, %d; want %d", o.name, i, j, p, e, want)
				}
				for _, x := range points {
					if e == api.OK && Has(p, x) != o.bit(Has(a, x), Has(b, x)) {
						t.Errorf("%s of the sets %d and %d at %d is %t", o.name, i, j, x, Has(p, x))
					}
				}
			}
			rest, _ := Minus(a, b)
			if within, e := Within(a, b); e != want || within != (e == api.OK && len(rest.L) == 0) {
				t.Errorf("Within of the sets %d and %d = %t, %d; want %d", i, j, within, e, want)
			}
		}
	}
}

// TestP133Errors has pairs at and beyond the conditions, and such to which more than one error applies.
func TestP133Errors(t *testing.T) {
	all := set(1, 0, 1)
	rowSet := func(n, first, step, width, period int) api.Periodic {
		return api.Periodic{Period: period, L: row(n, first, step, width)}
	}
	for i, c := range []struct {
		a, b api.Periodic
		e    api.Errno
	}{
		{set(most, 0, 1), set(11, 0, 1), api.ErrBig}, {set(most-1, 0, 1), set(most, 0, 1), api.ErrBig}, {set(most/2+1, 0, 1), set(2, 0, 1), api.ErrBig}, {set(most-7, 0, 1), set(most-6, 3, most-9), api.ErrBig}, {set(1<<33, 0, 1), set(most, 0, 1), api.ErrBig}, {set(most/2, 0, 1), set(1<<33, 0, 1), api.ErrBig},
		// The periods are as long as they may be together.
		{set(most/3, 0, 1), set(most/2, 0, 1), api.OK}, {set(most/1999, 0, 1), set(most/1999*1999, 0, 1), api.OK}, {set(most/1999, 0, 1), set(most/1999*2, 0, 1), api.OK}, {set(most, 0, 1), set(most/1998, 0, 1), api.ErrBig}, {set(most, 0, 1), set(most/1800, 0, 1), api.OK}, {set(most, 0, 1), set(most/2016, 0, 1), api.ErrFull},
		// Spans are as many as there may be, or one more.
		{set(1999, 0, 1), all, api.OK}, {set(2000, 0, 1), all, api.ErrFull}, {all, set(1999, 0, 1), api.OK}, {all, set(2000, 0, 1), api.ErrFull}, {set(2000, 0, 1), set(1), api.OK}, {set(most, 0, 1), set(1), api.OK}, {set(1), set(most, 0, 1), api.OK}, {set(most, 0, 1), all, api.ErrFull},
		{set(1<<20, 0, 1), set(2, 0, 1), api.ErrFull}, {set(2*1999, 0, 1), set(2, 0, 1), api.OK}, {set(2*2000, 0, 1), set(2, 0, 1), api.ErrFull}, {set(1000, 0, 1), set(999, 0, 1), api.OK}, {set(1000, 0, 1), set(1001, 0, 1), api.ErrFull}, {set(667, 0, 1), set(667*3, 0, 1, 5, 6), api.OK}, {set(2, 0, 1), set(1333, 0, 1), api.OK}, {set(2, 0, 1), set(1997, 0, 1), api.OK}, {set(2, 0, 1), set(1999, 0, 1), api.ErrFull},
		{rowSet(full/2, 0, 9, 1, most), rowSet(full/2, 3, 9, 2, most), api.OK}, {rowSet(full/2+1, 0, 9, 1, most), rowSet(full/2, 3, 9, 2, most), api.ErrFull}, {rowSet(full/2, 0, 9, 1, most), rowSet(full/2+1, 3, 9, 2, most), api.ErrFull}, {rowSet(full, 0, 9, 1, most), set(1), api.OK}, {set(1), rowSet(full, 0, 9, 1, most), api.OK}, {rowSet(full, 0, 9, 1, most), set(most, 5, 6), api.ErrFull}, {rowSet(full-1, 0, 9, 1, most), set(most, 5, 6), api.OK}, {rowSet(full, 0, 9, 1, most), rowSet(full, 0, 9, 1, most), api.ErrFull}, {rowSet(full/2, 0, 9, 1, most), rowSet(full/2, 0, 9, 1, most), api.OK}, {rowSet(full/2, 0, 9, 1, most/2), set(most, 0, 1), api.ErrFull}, {rowSet(full/2-1, 0, 9, 1, most/2), set(most, 0, 1), api.OK},
		// Both are too much, and one of the sets is not valid.
		{rowSet(full, 0, 9, 1, most), rowSet(full, 0, 9, 1, most-1), api.ErrBig}, {set(4, 0, 1, 2, 3), set(2, 0, 1), api.ErrArg}, {set(most, 0, 1), set(most-1, 5, 5), api.ErrArg}, {set(most+1, 0, 1), set(2, 0, 1), api.ErrArg}, {rowSet(full+1, 0, 9, 1, most), rowSet(full, 0, 9, 1, most), api.ErrArg}, {api.Periodic{}, set(1), api.ErrArg}, {set(1), api.Periodic{}, api.ErrArg},
	} {
		for _, o := range operations() {
			if p, e := o.of(c.a, c.b); e != c.e || e != api.OK && !isZero(p) || e == api.OK && !Valid(p) {
				t.Errorf("%d: %s(%.80v, %.80v) = %.80v, %d; want %d", i, o.name, c.a, c.b, p, e, c.e)
			}
		}
		if within, e := Within(c.a, c.b); e != c.e || e != api.OK && within {
			t.Errorf("%d: Within(%.80v, %.80v) = %t, %d; want %d", i, c.a, c.b, within, e, c.e)
		}
	}
}

// TestP133Most has results with as many spans as there may be.
func TestP133Most(t *testing.T) {
	half := full / 2
	a, b := api.Periodic{Period: most, L: row(half, 0, 4, 1)}, api.Periodic{Period: most, L: row(half, 2, 4, 1)}
	if p, e := Union(a, b); e != api.OK || !same(p, api.Periodic{Period: most, L: row(full, 0, 2, 1)}) {
		t.Errorf("Union has %d spans, %d", len(p.L), e)
	}
	a, b = api.Periodic{Period: most, L: row(half, 0, 10, 5)}, api.Periodic{Period: most, L: row(half, 4, 10, 7)}
	if p, e := Meet(a, b); e != api.OK || len(p.L) != full-1 || !Valid(p) {
		t.Errorf("Meet has %d spans, %d", len(p.L), e)
	}
	a, b = api.Periodic{Period: most, L: row(half, 0, 10, 9)}, api.Periodic{Period: most, L: row(half, 3, 10, 3)}
	if p, e := Minus(a, b); e != api.OK || len(p.L) != full || !Valid(p) {
		t.Errorf("Minus has %d spans, %d", len(p.L), e)
	}
}

func TestP133Invalid(t *testing.T) {
	for _, bad := range noSets() {
		for _, good := range append(someSets(), bad) {
			for _, o := range operations() {
				if p, e := o.of(bad, good); e != api.ErrArg || !isZero(p) {
					t.Errorf("%s(%.80v, %.80v) = %.80v, %d", o.name, bad, good, p, e)
				}
				if p, e := o.of(good, bad); e != api.ErrArg || !isZero(p) {
					t.Errorf("%s(%.80v, %.80v) = %.80v, %d", o.name, good, bad, p, e)
				}
			}
			within, e := Within(bad, good)
			if again, f := Within(good, bad); within || again || e != api.ErrArg || f != api.ErrArg {
				t.Errorf("Within of %.80v and %.80v: %t, %d; %t, %d", bad, good, within, e, again, f)
			}
		}
	}
}

func TestP134Not(t *testing.T) {
	for _, c := range []struct{ p, want api.Periodic }{
		{set(6, 0, 1, 2, 5), set(6, 1, 2, 5, 6)}, {set(1), set(1, 0, 1)}, {set(1, 0, 1), set(1)}, {set(2, 0, 1), set(2, 1, 2)}, {set(2, 1, 2), set(2, 0, 1)}, {set(7, 0, 2), set(7, 2, 7)}, {set(7, 3, 4), set(7, 0, 3, 4, 7)}, {set(7, 0, 3, 4, 7), set(7, 3, 4)}, {set(7, 5, 7), set(7, 0, 5)}, {set(most, 0, 1), set(most, 1, most)}, {set(most, 5, 6), set(most, 0, 5, 6, most)},
	} {
		if p, e := Not(c.p); e != api.OK || !same(p, c.want) {
			t.Errorf("Not(%v) = %v, %d; want %v", c.p, p, e, c.want)
		}
	}
	wide(12, func(p pattern) {
		want := pattern{p.cells, 1<<p.cells - 1 - p.bits, p.width}
		if s, e := Not(p.set()); e != api.OK || !same(s, want.set()) {
			t.Errorf("Not(%v) = %v, %d; want %v", p.set(), s, e, want.set())
		}
	})
}

// TestP134NotFull has results with as many spans as there may be, or one more.
func TestP134NotFull(t *testing.T) {
	for i, c := range []struct {
		p api.Periodic
		n int
	}{
		{api.Periodic{Period: 2*full + 1, L: row(full, 0, 2, 1)}, full}, {api.Periodic{Period: 2*full + 1, L: row(full, 1, 2, 1)}, full + 1}, {api.Periodic{Period: 2*full + 1, L: append(row(full-1, 1, 2, 1), span(2*full, 2*full+1))}, full}, {api.Periodic{Period: 2*full + 2, L: row(full, 1, 2, 1)}, full + 1}, {api.Periodic{Period: most, L: row(full, 3, 2, 1)}, full + 1}, {api.Periodic{Period: most, L: row(full-1, 3, 2, 1)}, full}, {api.Periodic{Period: most, L: append(row(full-1, 0, 2, 1), span(most-1, most))}, full - 1},
	} {
		p, e := Not(c.p)
		if c.n > full && (e != api.ErrFull || !isZero(p)) || c.n <= full && (e != api.OK || len(p.L) != c.n || !Valid(p)) {
			t.Errorf("%d: Not has %d spans, %d; want %d", i, len(p.L), e, c.n)
		}
	}
	for _, bad := range noSets() {
		if p, e := Not(bad); e != api.ErrArg || !isZero(p) {
			t.Errorf("Not(%.80v) = %.80v, %d", bad, p, e)
		}
	}
}

func TestP134Move(t *testing.T) {
	for _, c := range []struct {
		p    api.Periodic
		n    int
		want api.Periodic
	}{
		{set(7, 5, 7), 1, set(7, 0, 1, 6, 7)}, {set(7, 5, 7), 2, set(7, 0, 2)}, {set(7, 5, 7), 7, set(7, 5, 7)}, {set(7, 5, 7), 0, set(7, 5, 7)}, {set(7, 5, 7), -5, set(7, 0, 2)}, {set(7, 5, 7), -6, set(7, 0, 1, 6, 7)}, {set(7, 5, 7), 8, set(7, 0, 1, 6, 7)}, {set(7, 0, 1, 6, 7), 1, set(7, 0, 2)}, {set(7, 0, 1, 6, 7), -1, set(7, 5, 7)}, {set(7, 0, 2, 3, 5), 4, set(7, 0, 2, 4, 6)}, {set(7, 0, 2, 3, 5), 3, set(7, 0, 1, 3, 5, 6, 7)},
		{set(1), 5, set(1)}, {set(1), line, set(1)}, {set(1), -line, set(1)}, {set(1, 0, 1), 5, set(1, 0, 1)}, {set(1, 0, 1), -line, set(1, 0, 1)}, {set(2, 0, 1), 1, set(2, 1, 2)}, {set(2, 0, 1), -1, set(2, 1, 2)}, {set(2, 0, 1), line, set(2, 0, 1)}, {set(7, 0, 1), line, set(7, 1, 2)}, {set(7, 0, 1), -line, set(7, 6, 7)}, {set(most, 0, 1), -1, set(most, most-1, most)}, {set(most, 0, 2), most - 1, set(most, 0, 1, most-1, most)}, {set(most, most-1, most), 1, set(most, 0, 1)}, {set(most, 0, most-1), most, set(most, 0, most-1)}, {set(most, 0, most-1), 1, set(most, 1, most)}, {set(most, 0, most-1), 2, set(most, 0, 1, 2, most)},
	} {
		if p, e := Move(c.p, c.n); e != api.OK || !same(p, c.want) {
			t.Errorf("Move(%v, %d) = %v, %d; want %v", c.p, c.n, p, e, c.want)
		}
	}
}

// TestP134MoveByDefinition has all patterns, moved by whole cells and by parts of them.
func TestP134MoveByDefinition(t *testing.T) {
	wide(8, func(p pattern) {
		for n := -2*p.cells - 1; n <= 2*p.cells+1; n++ {
			want := pattern{p.cells, 0, p.width}
			for c := range p.cells {
				if p.has((c - n) * p.width) {
					want.bits |= 1 << c
				}
			}
			if s, e := Move(p.set(), n*p.width); e != api.OK || !same(s, want.set()) {
				t.Errorf("Move(%v, %d) = %v, %d; want %v", p.set(), n*p.width, s, e, want.set())
			}
			part := n*p.width - p.width/3
			s, e := Move(p.set(), part)
			if e != api.OK || !Valid(s) || s.Period != p.set().Period {
				t.Errorf("Move(%v, %d) = %v, %d", p.set(), part, s, e)
			}
			for c := range p.cells {
				for _, x := range []int{c * p.width, c*p.width + p.width/2, c*p.width - 1} {
					if Has(s, x+part) != p.has(x) {
						t.Errorf("Move(%v, %d) has %d: %t", p.set(), part, x+part, !p.has(x))
					}
				}
			}
		}
	})
}

// TestP134MoveFull moves sets with as many spans as there may be, or one less, so that one of them is divided, or two of them become one.
func TestP134MoveFull(t *testing.T) {
	for i, p := range []api.Periodic{
		{Period: 4*full + 1, L: row(full, 0, 4, 2)}, {Period: 4*full + 1, L: row(full-1, 0, 4, 2)}, {Period: 4*full + 1, L: row(full, 2, 4, 2)},
		{Period: 4*full + 1, L: join(list(0, 1), row(full-2, 3, 4, 2), list(4*full, 4*full+1))}, {Period: 4*full + 1, L: join(list(0, 2), row(full-3, 4, 4, 2), list(4*full-1, 4*full+1))},
	} {
		fits, misses := 0, 0
		for n := -p.Period - 5; n <= p.Period+5; n += 31 {
			l := movedRuns(p, n)
			s, e := Move(p, n)
			if len(l) > full {
				misses++
				if e != api.ErrFull || !isZero(s) {
					t.Errorf("Move of the set %d by %d has %d spans, %d; want %d", i, n, len(s.L), e, len(l))
				}
				continue
			}
			fits++
			if e != api.OK || !same(s, api.Periodic{Period: p.Period, L: l}) {
				t.Errorf("Move of the set %d by %d has %d spans, %d; want %d", i, n, len(s.L), e, len(l))
			}
		}
		if isFull := i%2 == 0 && i < 4; !Valid(p) || fits < 100 || isFull != (misses > 100) {
			t.Errorf("the set %d: %d moves fit, and %d do not", i, fits, misses)
		}
	}
}

// movedRuns returns the spans, in its period, of a set that was moved by n, found integer by integer.
func movedRuns(p api.Periodic, n int) []api.Span {
	has := make([]bool, p.Period)
	for _, s := range p.L {
		for x := s.From; x < s.To; x++ {
			has[remainder(x+n, p.Period)] = true
		}
	}
	var l []api.Span
	for x := range has {
		last := len(l) - 1
		switch {
		case !has[x]:
		case last >= 0 && l[last].To == x:
			l[last].To++
		default:
			l = append(l, span(x, x+1))
		}
	}
	return l
}

func TestP134MoveErrors(t *testing.T) {
	beyond := []int{line + 1, -line - 1, 2 * line, -2 * line, math.MaxInt, math.MinInt, math.MinInt + 1, 1 << 62}
	for _, p := range someSets() {
		for _, n := range beyond {
			if s, e := Move(p, n); e != api.ErrRange || !isZero(s) {
				t.Errorf("Move(%.80v, %d) = %.80v, %d", p, n, s, e)
			}
		}
		for _, n := range []int{line, -line} {
			if s, e := Move(p, n); e != api.OK && e != api.ErrFull || (e == api.OK) != Valid(s) {
				t.Errorf("Move(%.80v, %d) = %.80v, %d", p, n, s, e)
			}
		}
	}
	for _, bad := range noSets() {
		for _, n := range append(beyond, 0, 1, -1, 7, line, -line) {
			if s, e := Move(bad, n); e != api.ErrArg || !isZero(s) {
				t.Errorf("Move(%.80v, %d) = %.80v, %d", bad, n, s, e)
			}
		}
	}
}
