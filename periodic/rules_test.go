package periodic

import (
	"math"
	"slices"
	"testing"

	"civiltime/api"
)

// results calls all functions that return lists with two sets, a span and a number.
func results(a, b api.Periodic, in api.Span, n int) (l [][]api.Span, errors []api.Errno) {
	keep := func(result []api.Span, e api.Errno) {
		l, errors = append(l, result), append(errors, e)
	}
	keepSet := func(p api.Periodic, e api.Errno) { keep(p.L, e) }
	keepSet(Of(a.Period, a.L))
	keepSet(Of(2*b.Period, b.L))
	for _, o := range operations() {
		keepSet(o.of(a, b))
		keepSet(o.of(b, a))
		keepSet(o.of(a, a))
		keepSet(o.of(a, set(1)))
		keepSet(o.of(set(1), a))
	}
	keepSet(Not(a))
	keepSet(Not(b))
	keepSet(Move(a, n))
	keepSet(Move(b, n))
	keep(Window(a, in))
	keep(Window(b, in))
	return l, errors
}

// TestOwnMemory overwrites the results, also behind their ends, and finds arguments and later results unchanged.
func TestOwnMemory(t *testing.T) {
	for _, c := range [][2]api.Periodic{{set(6, 0, 1, 2, 5), set(2, 0, 1)}, {set(7, 0, 2, 6, 7), set(7, 5, 7)}, {set(24, 9, 17), set(168, 0, 120)}, {set(1, 0, 1), set(4, 1, 3)}, {api.Periodic{Period: most, L: row(full/2, 0, 4, 1)}, api.Periodic{Period: most, L: row(full/2, 2, 4, 1)}}} {
		a, b := c[0], c[1]
		a.L, b.L = slices.Clone(a.L), slices.Clone(b.L)
		for _, n := range []int{0, 1, 7, 24} {
			first, _ := results(a, b, span(0, 8), n)
			want, _ := results(a, b, span(0, 8), n)
			for i := range first {
				whole := first[i][:cap(first[i])]
				for j := range whole {
					whole[j] = span(-77, -66)
				}
			}
			again, _ := results(a, b, span(0, 8), n)
			for i := range want {
				if !slices.Equal(want[i], again[i]) {
					t.Errorf("the result %d of %.80v and %.80v", i, a, b)
				}
			}
		}
		if !same(a, c[0]) || !same(b, c[1]) {
			t.Errorf("the arguments %.80v and %.80v were changed", c[0], c[1])
		}
	}
}

// TestNoSlack has arguments with memory behind their ends, which is not written to, and spans that go on over the end of the period.
func TestNoSlack(t *testing.T) {
	memory := list(0, 1, 3, 4, 6, 7, 20, 30, 1, 2, 4, 5, 77, 78, 97, 98)
	want := slices.Clone(memory)
	results(api.Periodic{Period: 7, L: memory[:3]}, api.Periodic{Period: 7, L: memory[4:6]}, span(-1, 8), 5)
	results(api.Periodic{Period: 8, L: memory[:2]}, api.Periodic{Period: 35, L: memory[1:4]}, span(-1, 8), 5)
	results(api.Periodic{Period: 10, L: memory[:7]}, api.Periodic{Period: 7, L: memory[:3]}, span(-1, 8), -1)
	if !slices.Equal(memory, want) {
		t.Errorf("the memory of arguments was changed: %v", memory)
	}
}

// TestP1 calls every function with all numbers that may be dangerous: none of them panics, and with an error the other results are zero.
func TestP1(t *testing.T) {
	sets := append(noSets(), someSets()...)
	for _, period := range strange {
		for _, from := range strange {
			for _, to := range strange {
				sets = append(sets, set(period, from, to))
			}
		}
	}
	for i, a := range sets {
		b := sets[(i*37+11)%len(sets)]
		in := span(strange[i%len(strange)], strange[i*7%len(strange)])
		for _, n := range []int{strange[i%len(strange)], math.MinInt, 0, math.MaxInt} {
			l, errors := results(a, b, in, n)
			for j, e := range errors {
				if e != api.OK && e != api.ErrArg && e != api.ErrFull && e != api.ErrRange && e != api.ErrBig || e != api.OK && len(l[j]) > 0 {
					t.Errorf("the result %d of %.80v, %.80v, %v and %d: %.80v, %d", j, a, b, in, n, l[j], e)
				}
			}
			within, e := Within(a, b)
			count, f := Count(a, in)
			next, ok := Next(a, n)
			if e != api.OK && within || f != api.OK && count != 0 || !ok && next != 0 {
				t.Errorf("%.80v, %.80v, %v and %d: %t, %d, %d, %d, %d, %t", a, b, in, n, within, e, count, f, next, ok)
			}
			if !Valid(a) && (e != api.ErrArg || f != api.ErrArg || ok || Has(a, n) || Equal(a, b) || Equal(b, a)) {
				t.Errorf("%.80v is not valid: %d, %d, %t", a, e, f, ok)
			}
		}
	}
}
