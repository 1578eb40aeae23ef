package timeset

import (
	"math"
	"slices"
	"testing"

	"civiltime/api"
)

// copied returns a set with memory of its own.
func copied(s api.Set) api.Set {
	s.L, s.Left.L, s.Right.L = slices.Clone(s.L), slices.Clone(s.Left.L), slices.Clone(s.Right.L)
	return s
}

// results calls all functions that return sets or lists, with two sets, an interval and a number; lists are returned as sets.
func results(a, b api.Set, in api.Span, n int) (sets []api.Set, errors []api.Errno) {
	keep := func(s api.Set, e api.Errno) {
		sets, errors = append(sets, s), append(errors, e)
	}
	keep(Of(a.Left, a.Right, a.From, a.To, a.L))
	keep(Of(b.Left, a.Right, a.From, b.To, a.L))
	for _, o := range operations() {
		keep(o.of(a, b))
		keep(o.of(b, a))
		keep(o.of(a, a))
		keep(o.of(a, pure(none)))
		keep(o.of(pure(none), a))
	}
	keep(Not(a))
	keep(Not(b))
	keep(Move(a, n))
	keep(Move(b, n))
	keep(From(a.L))
	keep(From(b.Left.L))
	keep(Replace(a, in, nil))
	keep(Replace(b, in, []api.Span{in}))
	keep(Replace(a, api.Span{From: a.From, To: a.To}, a.L))
	l, e := Window(a, in)
	keep(api.Set{L: l}, e)
	return sets, errors
}

// TestOwnMemory overwrites all lists of the results, one after the other, also behind their ends, and finds arguments, other results, and the other lists of the same result unchanged.
func TestOwnMemory(t *testing.T) {
	two, three, day := cycle(2, 0, 1), cycle(3, 0, 2), cycle(86400, 32400, 61200)
	for _, c := range [][2]api.Set{
		{fields(two, two, 3, 6, list(3, 6)), fields(none, none, 0, 9, list(0, 2, 7, 9))}, {pure(two), pure(three)}, {pure(two), pure(none)}, {pure(all), pure(all)}, {fields(two, three, -10, 21, list(-5, -4, 20, 21)), fields(none, all, 3, 9, list(3, 5, 6, 8))}, {fields(day, day, 32400, 61200, list(40000, 50000)), fields(none, day, 1, 1, nil)}, {fields(none, none, 0, 2*full-1, row(full/2, 0, 4, 3)), fields(none, none, 1, 2*full, row(full/2, 1, 4, 3))},
	} {
		a, b := copied(c[0]), copied(c[1])
		for _, n := range []int{0, 1, 6} {
			in := span(-1, 8)
			want, _ := results(a, b, in, n)
			for part := range 3 {
				first, _ := results(a, b, in, n)
				for i, s := range first {
					l := [][]api.Span{s.Left.L, s.L, s.Right.L}
					whole := l[part][:cap(l[part])]
					for j := range whole {
						whole[j] = span(-77, -66)
					}
					for other := range 3 {
						if w := [][]api.Span{want[i].Left.L, want[i].L, want[i].Right.L}; other != part && !slices.Equal(l[other], w[other]) {
							t.Errorf("the lists %d and %d of the result %d of %s and %s share memory", part, other, i, brief(a), brief(b))
						}
					}
				}
				again, _ := results(a, b, in, n)
				for i := range want {
					if !same(want[i], again[i]) {
						t.Errorf("the result %d of %s and %s", i, brief(a), brief(b))
					}
				}
			}
		}
		if !same(a, c[0]) || !same(b, c[1]) {
			t.Errorf("the arguments %s and %s were changed", brief(c[0]), brief(c[1]))
		}
	}
}

// TestNoSlack has arguments with memory behind their ends, which is not written to.
func TestNoSlack(t *testing.T) {
	memory := list(0, 1, 3, 4, 6, 7, 20, 30, 1, 2, 4, 5, 77, 78, 97, 98)
	want := slices.Clone(memory)
	a := fields(long(8, memory[:2]), long(7, memory[:1]), 0, 8, memory[1:3])
	b := fields(long(7, memory[4:6]), long(1, memory[:1]), 3, 40, memory[1:4])
	for _, n := range []int{-1, 0, 5} {
		results(a, b, span(-1, 8), n)
		results(b, a, span(-1, 8), n)
		results(must(t, a.Left, a.Right, a.From, a.To, a.L), must(t, b.Left, b.Right, b.From, b.To, b.L), span(-1, 8), n)
		results(pure(a.Left), pure(b.Left), span(-1, 8), n)
	}
	if !slices.Equal(memory, want) {
		t.Errorf("the memory of arguments was changed: %v", memory)
	}
}

// TestP1 calls every function with all numbers that may be dangerous: none of them panics, and with an error the other results are zero.
func TestP1(t *testing.T) {
	sets := append(noSets(), someSets()...)
	for i, from := range strange {
		for j, to := range strange {
			p := cycle(strange[(i*5+j)%len(strange)], from, to)
			sets = append(sets, fields(none, all, from, to, nil), fields(none, none, from, to, list(from, to)), fields(cycle(7, 0, 1), p, from, to, list(0, 1)), fields(p, cycle(2, 0, 1), to, from, nil), pure(p))
		}
	}
	for i, a := range sets {
		b := sets[(i*37+11)%len(sets)]
		in := span(strange[i%len(strange)], strange[i*7%len(strange)])
		for _, n := range []int{strange[i%len(strange)], math.MinInt, 0, math.MaxInt} {
			found, errors := results(a, b, in, n)
			for j, e := range errors {
				if e != api.OK && e != api.ErrArg && e != api.ErrFull && e != api.ErrRange && e != api.ErrBig || e != api.OK && !isZero(found[j]) {
					t.Errorf("the result %d of %s, %s, %v and %d: %s, %d", j, brief(a), brief(b), in, n, brief(found[j]), e)
				}
				if j < len(errors)-1 && e == api.OK && !Valid(found[j]) {
					t.Errorf("the result %d of %s, %s, %v and %d is not valid: %s", j, brief(a), brief(b), in, n, brief(found[j]))
				}
			}
			within, e := Within(a, b)
			next, ok1 := Next(a, n)
			previous, ok2 := Previous(a, n)
			change, ok3 := Change(a, n)
			if e != api.OK && within || !ok1 && next != 0 || !ok2 && previous != 0 || !ok3 && change != 0 {
				t.Errorf("%s, %s and %d: %t, %d, %d, %d, %d", brief(a), brief(b), n, within, e, next, previous, change)
			}
			if !Valid(a) && (e != api.ErrArg || ok1 || ok2 || ok3 || Has(a, n) || Equal(a, b) || Equal(b, a)) {
				t.Errorf("%s is not valid: %d, %t, %t, %t", brief(a), e, ok1, ok2, ok3)
			}
		}
	}
}
