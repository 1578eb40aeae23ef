package runs

import (
	"math"
	"slices"
	"testing"

	"civiltime/api"
)

// results calls all functions that return lists with two lists, a span and a number.
func results(a, b []api.Span, in api.Span, n int) (l [][]api.Span, errors []api.Errno) {
	keep := func(result []api.Span, e api.Errno) {
		l, errors = append(l, result), append(errors, e)
	}
	keep(Of(a))
	keep(Of(b))
	for _, o := range operations() {
		keep(o.of(a, b))
		keep(o.of(b, a))
		keep(o.of(a, a))
		keep(o.of(a, nil))
		keep(o.of(nil, a))
	}
	keep(Not(a, in))
	keep(Move(a, n))
	return l, errors
}

// TestOwnMemory overwrites the results, also behind their ends, and finds arguments and later results unchanged.
func TestOwnMemory(t *testing.T) {
	for _, c := range [][2][]api.Span{{list(0, 4, 6, 10, 20, 30), list(2, 7, 10, 12)}, {list(0, 4), list(5, 6)}, {row(full/2, 0, 4, 1), row(full/2, 2, 4, 1)}, {list(5, 9, 0, 3, 3, 4, 6, 7), list(8, 9, 1, 2)}} {
		a, b := slices.Clone(c[0]), slices.Clone(c[1])
		for _, n := range []int{0, 3} {
			first, _ := results(a, b, span(-1, 8), n)
			want, _ := results(a, b, span(-1, 8), n)
			for i := range first {
				whole := first[i][:cap(first[i])]
				for j := range whole {
					whole[j] = span(-77, -66)
				}
			}
			again, _ := results(a, b, span(-1, 8), n)
			for i := range want {
				if !slices.Equal(want[i], again[i]) {
					t.Errorf("the result %d of %.80v and %.80v", i, a, b)
				}
			}
		}
		if !slices.Equal(a, c[0]) || !slices.Equal(b, c[1]) {
			t.Errorf("the arguments %.80v and %.80v were changed", c[0], c[1])
		}
	}
}

// TestNoSlack has arguments with memory behind their ends, which is not written to.
func TestNoSlack(t *testing.T) {
	memory := list(0, 4, 6, 10, 20, 30, 77, 78, 87, 88, 97, 98)
	results(memory[:2], memory[3:4], span(-1, 8), 5)
	results(memory[:3], memory[:2], span(-1, 8), 5)
	if !slices.Equal(memory, list(0, 4, 6, 10, 20, 30, 77, 78, 87, 88, 97, 98)) {
		t.Errorf("the memory behind arguments was changed: %v", memory)
	}
}

// TestP1 calls every function with all numbers that may be dangerous: none of them panics, and with an error the other results are zero.
func TestP1(t *testing.T) {
	lists := append(noLists(), someLists()...)
	for _, from := range strange {
		for _, to := range strange {
			lists = append(lists, list(from, to), list(from, to, 5, 6), list(-6, -5, from, to))
		}
	}
	for i, a := range lists {
		b := lists[i*37%len(lists)]
		in := span(strange[i%len(strange)], strange[i*7%len(strange)])
		for _, n := range []int{strange[i%len(strange)], math.MinInt, 0, math.MaxInt} {
			l, errors := results(a, b, in, n)
			for j, e := range errors {
				if e != api.OK && e != api.ErrArg && e != api.ErrFull && e != api.ErrRange || e != api.OK && len(l[j]) > 0 || e == api.OK && !Valid(l[j]) {
					t.Errorf("the result %d of %.80v, %.80v, %v and %d: %.80v, %d", j, a, b, in, n, l[j], e)
				}
			}
			valid := Valid(a)
			x, e := Nth(a, n)
			next, ok := Next(a, n)
			if e != api.OK && x != 0 || !ok && next != 0 || !valid && (e != api.ErrArg || ok || Has(a, n) || Rank(a, n) != 0 || Measure(a) != 0 || Equal(a, b)) {
				t.Errorf("%.80v and %d: %d, %d, %d, %t", a, n, x, e, next, ok)
			}
		}
	}
}
