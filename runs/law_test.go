package runs

import (
	"slices"
	"testing"

	"civiltime/api"
)

// same fails if two results are not the same list, or are errors.
func same(t *testing.T, law string, a []api.Span, e api.Errno, b []api.Span, f api.Errno) {
	t.Helper()
	if e != api.OK || f != api.OK || !Equal(a, b) {
		t.Errorf("%s: %.80v, %d and %.80v, %d", law, a, e, b, f)
	}
}

// must returns the result of an operation that has no error.
func must(t *testing.T) func(l []api.Span, e api.Errno) []api.Span {
	return func(l []api.Span, e api.Errno) []api.Span {
		t.Helper()
		if e != api.OK {
			t.Fatalf("the error %d", e)
		}
		return l
	}
}

// long returns lists that are so short that no operation on three of them has too many spans, within a span.
func long() (lists [][]api.Span, in api.Span) {
	next := random(127)
	for range 20 {
		var l []api.Span
		for at, n := next(30), next(full/5); n > 0; n-- {
			to := at + 1 + next(9)
			l = append(l, span(at, to))
			at = to + 1 + next(9)
		}
		lists = append(lists, l)
	}
	return append(lists, nil, list(0, 20*full)), span(0, 20*full)
}

// triples calls a function with three sets: all small ones of five cells, and long ones.
func triples(see func(a, b, c []api.Span)) {
	for set := range 1 << 15 {
		s := scales[set%len(scales)]
		see(s.list(set&31), s.list(set>>5&31), s.list(set>>10))
	}
	lists, _ := long()
	for i, a := range lists {
		for j, b := range lists {
			see(a, b, lists[(i*7+j*3)%len(lists)])
		}
	}
}

// pairs calls a function with two sets within a span: all small ones, and long ones.
func pairs(see func(a, b []api.Span, in api.Span)) {
	for a := range 1 << cells {
		for b := range 1 << cells {
			s := scales[(a+b)%len(scales)]
			see(s.list(a), s.list(b), s.window())
		}
	}
	lists, in := long()
	for _, a := range lists {
		for _, b := range lists {
			see(a, b, in)
		}
	}
}

// singles calls a function with one set within a span: all small ones in all scales, and long ones.
func singles(see func(a []api.Span, in api.Span)) {
	for _, s := range scales {
		for a := range 1 << cells {
			see(s.list(a), s.window())
		}
	}
	lists, in := long()
	for _, a := range lists {
		see(a, in)
	}
}

func TestP127ThreeSets(t *testing.T) {
	l := must(t)
	triples(func(a, b, c []api.Span) {
		for _, f := range []func(a, b []api.Span) ([]api.Span, api.Errno){Union, Meet, Either} {
			x, e := f(l(f(a, b)), c)
			y, g := f(a, l(f(b, c)))
			same(t, "association", x, e, y, g)
		}
		x, e := Union(a, l(Meet(b, c)))
		y, f := Meet(l(Union(a, b)), l(Union(a, c)))
		same(t, "distribution of the union", x, e, y, f)
		x, e = Meet(a, l(Union(b, c)))
		y, f = Union(l(Meet(a, b)), l(Meet(a, c)))
		same(t, "distribution of the meet", x, e, y, f)
		x, e = Meet(a, l(Either(b, c)))
		y, f = Either(l(Meet(a, b)), l(Meet(a, c)))
		same(t, "distribution over either", x, e, y, f)
	})
}

func TestP127TwoSets(t *testing.T) {
	l := must(t)
	pairs(func(a, b []api.Span, in api.Span) {
		for _, f := range []func(a, b []api.Span) ([]api.Span, api.Errno){Union, Meet, Either} {
			x, e := f(a, b)
			y, g := f(b, a)
			same(t, "commutation", x, e, y, g)
		}
		x, e := Union(a, l(Meet(a, b)))
		same(t, "absorption by the union", x, e, a, api.OK)
		x, e = Meet(a, l(Union(a, b)))
		same(t, "absorption by the meet", x, e, a, api.OK)
		x, e = Not(l(Union(a, b)), in)
		y, f := Meet(l(Not(a, in)), l(Not(b, in)))
		same(t, "De Morgan's law for the union", x, e, y, f)
		x, e = Not(l(Meet(a, b)), in)
		y, f = Union(l(Not(a, in)), l(Not(b, in)))
		same(t, "De Morgan's law for the meet", x, e, y, f)
		x, e = Minus(a, b)
		y, f = Meet(a, l(Not(b, in)))
		same(t, "the difference by Not", x, e, y, f)
		x, e = Either(a, b)
		y, f = Minus(l(Union(a, b)), l(Meet(a, b)))
		same(t, "either by the difference", x, e, y, f)
	})
}

func TestP127OneSet(t *testing.T) {
	l := must(t)
	singles(func(a []api.Span, in api.Span) {
		all := []api.Span{in}
		x, e := Not(l(Not(a, in)), in)
		same(t, "Not of Not", x, e, a, api.OK)
		x, e = Union(a, l(Not(a, in)))
		same(t, "the union with Not", x, e, all, api.OK)
		x, e = Meet(a, l(Not(a, in)))
		same(t, "the meet with Not", x, e, nil, api.OK)
		x, e = Meet(a, all)
		same(t, "the meet with all", x, e, a, api.OK)
		x, e = Union(a, nil)
		same(t, "the union with nothing", x, e, a, api.OK)
		x, e = Either(a, all)
		same(t, "either with all", x, e, l(Not(a, in)), api.OK)
		x, e = Of(slices.Concat(a, l(Not(a, in))))
		same(t, "the spans of both", x, e, all, api.OK)
	})
}

func TestP127Measure(t *testing.T) {
	l := must(t)
	pairs(func(a, b []api.Span, in api.Span) {
		union, common, rest := Measure(l(Union(a, b))), Measure(l(Meet(a, b))), Measure(l(Minus(a, b)))
		if union+common != Measure(a)+Measure(b) || rest+common != Measure(a) || Measure(l(Either(a, b))) != union-common || Measure(l(Not(a, in))) != in.To-in.From-Measure(a) {
			t.Errorf("the measures of %.80v and %.80v", a, b)
		}
	})
}

// TestP127Inverse finds each element again by its rank, and each rank by its element.
func TestP127Inverse(t *testing.T) {
	lists, _ := long()
	for _, s := range scales {
		for set := range 1 << cells {
			lists = append(lists, s.list(set))
		}
	}
	for _, a := range append(lists, someLists()...) {
		m := Measure(a)
		for _, n := range []int{0, 1, 2, 3, m / 5, m / 3, m / 2, m - m/3, m - 2, m - 1} {
			if n < 0 || n >= m {
				continue
			}
			if x, e := Nth(a, n); e != api.OK || !Has(a, x) || Rank(a, x) != n || Rank(a, x+1) != n+1 {
				t.Errorf("Nth(%.80v, %d) = %d, %d", a, n, x, e)
			}
		}
		for _, x := range places(a)[:min(100, len(strange)+7*len(a))] {
			next, ok := Next(a, x)
			nth, e := Nth(a, Rank(a, x))
			if next != nth || ok != (e == api.OK) || Has(a, x) != (ok && next == x) {
				t.Errorf("Next(%.80v, %d) = %d, %t; Nth of the rank %d, %d", a, x, next, ok, nth, e)
			}
		}
	}
}

func TestP127Moved(t *testing.T) {
	l := must(t)
	lists, in := long()
	for set := range 1 << cells {
		lists = append(lists, scales[0].list(set), scales[3].list(set))
	}
	for i, a := range lists {
		b := lists[i*31%len(lists)]
		for _, n := range []int{-line + 50, -1 << 33, -7, -1, 0, 1, 3, 86400, 1 << 33, line - in.To - 20} {
			movedA, movedB, movedIn := l(Move(a, n)), l(Move(b, n)), span(in.From+n, in.To+n)
			for _, o := range operations() {
				x, e := o.of(movedA, movedB)
				y, f := Move(l(o.of(a, b)), n)
				same(t, o.name+" moved", x, e, y, f)
			}
			x, e := Not(movedA, movedIn)
			y, f := Move(l(Not(a, in)), n)
			same(t, "Not moved", x, e, y, f)
			x, e = Move(movedA, -n)
			same(t, "moved back", x, e, a, api.OK)
			if Measure(movedA) != Measure(a) {
				t.Errorf("Measure(%.80v) = %d; moved by %d %d", a, Measure(a), n, Measure(movedA))
			}
			movedElements(t, a, movedA, n)
		}
	}
}

// movedElements compares the elements of a list with those of the list that was moved by n.
func movedElements(t *testing.T, a, moved []api.Span, n int) {
	t.Helper()
	for x := -5; x < 20; x++ {
		next, ok := Next(a, x)
		movedNext, movedOK := Next(moved, x+n)
		if Has(a, x) != Has(moved, x+n) || Rank(a, x) != Rank(moved, x+n) || ok != movedOK || ok && next+n != movedNext {
			t.Errorf("the place %d of %.80v, moved by %d", x, a, n)
		}
		nth, e := Nth(a, x)
		if movedNth, f := Nth(moved, x); e != f || e == api.OK && nth+n != movedNth {
			t.Errorf("the element %d of %.80v, moved by %d", x, a, n)
		}
	}
}
