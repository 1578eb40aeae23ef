package periodic

import (
	"testing"

	"civiltime/api"
	"civiltime/runs"
)

// laws counts the laws that hold, and those that cannot be tested because an operation on the way has an error.
type laws struct {
	t             *testing.T
	hasError      bool
	held, skipped int
}

// ok returns the result of an operation, and notes an error.
func (l *laws) ok(p api.Periodic, e api.Errno) api.Periodic {
	l.hasError = l.hasError || e != api.OK
	return p
}

// equal fails if two results are not the same set, unless there was an error since the last law.
func (l *laws) equal(law string, a, b api.Periodic) {
	l.t.Helper()
	switch {
	case l.hasError || isZero(a) || isZero(b):
		l.skipped++
	case !Equal(a, b):
		l.t.Errorf("%s: %.200v and %.200v", law, a, b)
	default:
		l.held++
	}
	l.hasError = false
}

// end fails if more laws were skipped than may be.
func (l *laws) end(most int) {
	l.t.Helper()
	if l.held == 0 || l.skipped > most {
		l.t.Errorf("%d laws held, and %d could not be tested", l.held, l.skipped)
	}
}

// longSets are sets of one week, in units of five minutes and of seconds, that are so short that three of them can be combined.
func longSets() []api.Periodic {
	sets := []api.Periodic{set(1), set(1, 0, 1), set(12, 0, 3, 5, 6), set(288, 108, 204), set(288, 0, 12, 240, 288), set(2016, 0, 1440), set(2016, 1440, 2016), set(2016, 5, 7, 100, 900, 1000, 1001, 2015, 2016), set(2016/7*2, 0, 288), set(2016*2, 0, 2016), set(2016*2, 2016, 2016*2)}
	return append(sets, api.Periodic{Period: 2016, L: row(50, 3, 17, 9)}, api.Periodic{Period: 2016, L: row(40, 0, 50, 49)})
}

// TestP137SameIntegers has all pairs of sets that are given in many ways, and compares their integers with their fields.
func TestP137SameIntegers(t *testing.T) {
	var sets []pattern
	patterns(6, func(p pattern) { sets = append(sets, p) })
	for _, a := range sets {
		for _, b := range sets {
			differs := false
			for x := range 60 {
				differs = differs || a.has(x) != b.has(x)
			}
			p, e := Of(a.cells, a.spans(a.cells))
			q, f := Of(b.cells, b.spans(b.cells))
			if e != api.OK || f != api.OK || Equal(p, q) == differs || same(p, q) == differs {
				t.Errorf("the patterns %v and %v: %v and %v", a, b, p, q)
			}
		}
	}
}

// TestP137Again finds each set again from its spans in a window of any number of periods, from anywhere on.
func TestP137Again(t *testing.T) {
	for i, p := range someSets() {
		for times := 1; times <= 5; times++ {
			period := p.Period * times
			if period > most || len(p.L)*times > full {
				continue
			}
			for _, from := range []int{0, 1, -1, 5, p.Period / 2, -7 * p.Period / 3, -line + 9, line - period} {
				l, e := Window(p, span(from, from+period))
				if e != api.OK {
					continue
				}
				q, e := Of(period, l)
				if e != api.OK || !Equal(p, q) {
					t.Errorf("the set %d in %d periods from %d on: %.80v, %d", i, times, from, q, e)
				}
			}
		}
	}
}

func TestP137OneSet(t *testing.T) {
	l := &laws{t: t}
	ok, all, none := l.ok, set(1, 0, 1), set(1)
	see := func(p api.Periodic) {
		not := ok(Not(p))
		l.equal("Not of Not", ok(Not(not)), p)
		l.equal("the union with itself", ok(Union(p, p)), p)
		l.equal("the meet with itself", ok(Meet(p, p)), p)
		l.equal("the difference with itself", ok(Minus(p, p)), none)
		l.equal("the union with Not", ok(Union(p, not)), all)
		l.equal("the meet with Not", ok(Meet(p, not)), none)
		l.equal("the difference with Not", ok(Minus(p, not)), p)
		l.equal("the union with nothing", ok(Union(p, none)), p)
		l.equal("the meet with nothing", ok(Meet(p, none)), none)
		l.equal("nothing without it", ok(Minus(none, p)), none)
	}
	wide(9, func(p pattern) { see(p.set()) })
	for _, p := range longSets() {
		see(p)
	}
	l.end(0)
	for _, p := range append(longSets(), set(1999, 0, 5), set(7, 0, 2)) {
		l.equal("the union with all", ok(Union(p, all)), all)
		l.equal("the meet with all", ok(Meet(p, all)), p)
		l.equal("all without it", ok(Minus(all, p)), ok(Not(p)))
	}
	// Longer periods than these have too many spans of the set of all integers.
	l.end(21)
}

// pairLaws are those of two sets.
func pairLaws(l *laws, a, b api.Periodic) {
	ok := l.ok
	union, meet, minus := ok(Union(a, b)), ok(Meet(a, b)), ok(Minus(a, b))
	l.equal("commutation of the union", union, ok(Union(b, a)))
	l.equal("commutation of the meet", meet, ok(Meet(b, a)))
	l.equal("absorption by the union", ok(Union(a, meet)), a)
	l.equal("absorption by the meet", ok(Meet(a, union)), a)
	l.equal("De Morgan's law for the union", ok(Not(union)), ok(Meet(ok(Not(a)), ok(Not(b)))))
	l.equal("De Morgan's law for the meet", ok(Not(meet)), ok(Union(ok(Not(a)), ok(Not(b)))))
	l.equal("the difference by Not", minus, ok(Meet(a, ok(Not(b)))))
	l.equal("the parts of a set", ok(Union(minus, meet)), a)
	for _, n := range []int{1, -1, 5, 288, -100000, line, -line} {
		movedA, movedB := ok(Move(a, n)), ok(Move(b, n))
		l.equal("the union moved", ok(Union(movedA, movedB)), ok(Move(union, n)))
		l.equal("the meet moved", ok(Meet(movedA, movedB)), ok(Move(meet, n)))
		l.equal("the difference moved", ok(Minus(movedA, movedB)), ok(Move(minus, n)))
	}
	within, e := Within(a, b)
	if e == api.OK && (within != Equal(meet, a) || within != Equal(union, b) || within != Equal(minus, set(1))) {
		l.t.Errorf("Within(%v, %v) = %t, %d", a, b, within, e)
	}
	if both, f := Within(b, a); e != f || e == api.OK && (within && both) != Equal(a, b) {
		l.t.Errorf("Within of %v and %v in both directions: %t, %d; %t, %d", a, b, within, e, both, f)
	}
}

func TestP137TwoSets(t *testing.T) {
	var small []api.Periodic
	patterns(5, func(p pattern) { small = append(small, p.set()) })
	l := &laws{t: t}
	for _, a := range small {
		for _, b := range small {
			pairLaws(l, a, b)
		}
	}
	l.end(0)
	for _, a := range longSets() {
		for _, b := range longSets() {
			pairLaws(l, a, b)
		}
	}
	l.end(500)
}

// tripleLaws are those of three sets.
func tripleLaws(l *laws, a, b, c api.Periodic) {
	ok := l.ok
	l.equal("association of the union", ok(Union(ok(Union(a, b)), c)), ok(Union(a, ok(Union(b, c)))))
	l.equal("association of the meet", ok(Meet(ok(Meet(a, b)), c)), ok(Meet(a, ok(Meet(b, c)))))
	l.equal("distribution of the union", ok(Union(a, ok(Meet(b, c)))), ok(Meet(ok(Union(a, b)), ok(Union(a, c)))))
	l.equal("distribution of the meet", ok(Meet(a, ok(Union(b, c)))), ok(Union(ok(Meet(a, b)), ok(Meet(a, c)))))
	l.equal("the difference of a union", ok(Minus(a, ok(Union(b, c)))), ok(Minus(ok(Minus(a, b)), c)))
	l.equal("the difference of a meet", ok(Minus(a, ok(Meet(b, c)))), ok(Union(ok(Minus(a, b)), ok(Minus(a, c)))))
}

func TestP137ThreeSets(t *testing.T) {
	triples := func(l *laws, sets []api.Periodic) {
		for _, a := range sets {
			for _, b := range sets {
				for _, c := range sets {
					tripleLaws(l, a, b, c)
				}
			}
		}
	}
	var small []api.Periodic
	patterns(4, func(p pattern) { small = append(small, p.set()) })
	l := &laws{t: t}
	triples(l, small)
	l.end(0)
	long := longSets()
	triples(l, long)
	l.end(2500)
}

// TestP137Moved moves sets there and back, in one step and in two, by numbers of any size.
func TestP137Moved(t *testing.T) {
	l := &laws{t: t}
	wide(7, func(p pattern) {
		ok, a := l.ok, p.set()
		for _, n := range []int{0, 1, 2, 77, p.width, -p.width, p.cells * p.width, -3 * p.cells * p.width, line, -line} {
			moved := ok(Move(a, n))
			l.equal("moved back", ok(Move(moved, -n)), a)
			l.equal("moved in two steps", ok(Move(ok(Move(a, n/3)), n-n/3)), moved)
			l.equal("Not moved", ok(Not(moved)), ok(Move(ok(Not(a)), n)))
			if Equal(moved, a) != (n%a.Period == 0) {
				t.Errorf("Move(%v, %d) = %v", a, n, moved)
			}
		}
	})
	l.end(0)
}

// TestP137Count adds up counts over adjacent spans, and compares them with Window, and with those of other sets.
func TestP137Count(t *testing.T) {
	sets := append(someSets(), longSets()...)
	patterns(5, func(p pattern) { sets = append(sets, p.set()) })
	for i, p := range sets {
		places := []int{-line, -line + 1, -1 << 40, -604800, -2016, -13, -1, 0, 1, 5, 288, 2016, 5000, 1 << 33, line - 3, line}
		for j, from := range places {
			for k := j + 1; k < len(places); k++ {
				in := span(from, places[k])
				n, e := Count(p, in)
				if e != api.OK || n < 0 || n > in.To-in.From {
					t.Errorf("Count of the set %d and %v = %d, %d", i, in, n, e)
				}
				if l, e := Window(p, in); e == api.OK && (runs.Measure(l) != n || !runs.Valid(l)) {
					t.Errorf("Window of the set %d and %v has %d integers; Count = %d", i, in, runs.Measure(l), n)
				}
				if not, e := Not(p); e == api.OK {
					if rest, f := Count(not, in); f != api.OK || n+rest != in.To-in.From {
						t.Errorf("Count of Not of the set %d and %v = %d, %d", i, in, rest, f)
					}
				}
				for _, middle := range places[j+1 : k] {
					a, e := Count(p, span(from, middle))
					b, f := Count(p, span(middle, places[k]))
					if e != api.OK || f != api.OK || a+b != n {
						t.Errorf("Count of the set %d from %d to %d and %d: %d and %d; together %d", i, from, middle, places[k], a, b, n)
					}
				}
			}
		}
	}
}

// TestP137Next goes through the integers of sets with Next, and finds those of Window, with Has.
func TestP137Next(t *testing.T) {
	for i, p := range append(someSets(), longSets()...) {
		for _, start := range []int{-3000, -line, line - 2000} {
			in := span(start, start+2000)
			want, e := Window(p, in)
			if e != api.OK {
				t.Fatalf("Window of the set %d and %v: %d", i, in, e)
			}
			var got []api.Span
			for x := in.From; ; x++ {
				next, ok := Next(p, x)
				if !ok || next >= in.To {
					break
				}
				if !Has(p, next) || next > x && Has(p, x) {
					t.Errorf("Has of the set %d at %d or %d", i, x, next)
				}
				got = append(got, span(next, next+1))
				x = next
			}
			if joined, e := runs.Of(got); e != api.OK || !runs.Equal(joined, want) {
				t.Errorf("Next of the set %d goes through %.80v; want %.80v", i, joined, want)
			}
		}
	}
}
