package timeset

import (
	"slices"
	"testing"

	"civiltime/api"
	"civiltime/runs"
)

// laws counts the laws that hold, and those that cannot be tested because an operation on the way has an error.
type laws struct {
	t             *testing.T
	hasError      bool
	held, skipped int
}

// ok returns the result of an operation, and notes an error.
func (l *laws) ok(s api.Set, e api.Errno) api.Set {
	l.hasError = l.hasError || e != api.OK
	return s
}

// equal fails if two results are not the same set, unless there was an error since the last law.
func (l *laws) equal(law string, a, b api.Set) {
	l.t.Helper()
	switch {
	case l.hasError || isZero(a) || isZero(b):
		l.skipped++
	case !Equal(a, b):
		l.t.Errorf("%s: %s and %s", law, brief(a), brief(b))
	default:
		l.held++
	}
	l.hasError = false
}

// end fails if more laws were skipped than may be.
func (l *laws) end(most int) {
	l.t.Helper()
	if l.held == 0 || l.skipped > most {
		l.t.Errorf("%d laws held, and %d could not be tested", l.held, l.skipped)
	}
}

// longSets are sets of days and weeks with exceptions, in units of ten minutes, so short that most of them can be combined with two others.
func longSets(t *testing.T) []api.Set {
	day, week, night, other := cycle(144, 54, 102), cycle(1008, 0, 720), cycle(144, 0, 36, 132, 144), cycle(288, 0, 144)
	return []api.Set{
		pure(none), pure(all), pure(day), pure(week), pure(night), pure(other),
		must(t, day, day, 0, 10000, list(25, 30, 3500, 4500)), must(t, day, night, -500, -500, nil), must(t, none, week, 2500, 2500, nil), must(t, week, none, 50, 1500, list(51, 100)), must(t, none, none, -10000, 10000, row(60, -10000, 300, 150)), must(t, all, all, 350, 15000, row(30, 350, 450, 400)), must(t, none, all, 0, 0, nil), must(t, all, none, 5000, 5000, nil), must(t, other, week, 2016, 4032, nil), must(t, day, other, 40, 50, list(41, 45)),
	}
}

// TestP149SameIntegers has pairs of descriptions, and compares their integers with the fields of their forms.
func TestP149SameIntegers(t *testing.T) {
	type description struct {
		s, form api.Set
	}
	var found []description
	for _, from := range []int{-1, 0} {
		given(append(cycles(2), cycle(3, 0, 1)), from, 2, func(s api.Set) {
			form, e := Of(s.Left, s.Right, s.From, s.To, s.L)
			if e != api.OK || !Valid(form) {
				t.Errorf("Of(%v): %d, %v", s, e, form)
			}
			found = append(found, description{s, form})
		})
	}
	for _, a := range found {
		for _, b := range found {
			differs := false
			for x := -20; x <= 20; x++ {
				differs = differs || contains(a.s, x) != contains(b.s, x)
			}
			if Equal(a.form, b.form) == differs || same(a.form, b.form) == differs {
				t.Errorf("%v and %v: %v and %v", a.s, b.s, a.form, b.form)
			}
		}
	}
}

func TestP149OneSet(t *testing.T) {
	l := &laws{t: t}
	ok, everything, nothing := l.ok, pure(all), pure(none)
	see := func(s api.Set) {
		not := ok(Not(s))
		l.equal("Not of Not", ok(Not(not)), s)
		l.equal("the union with itself", ok(Union(s, s)), s)
		l.equal("the meet with itself", ok(Meet(s, s)), s)
		l.equal("the difference with itself", ok(Minus(s, s)), nothing)
		l.equal("the union with Not", ok(Union(s, ok(Not(s)))), everything)
		l.equal("the meet with Not", ok(Meet(s, ok(Not(s)))), nothing)
		l.equal("the difference with Not", ok(Minus(s, ok(Not(s)))), s)
		l.equal("the union with nothing", ok(Union(s, nothing)), s)
		l.equal("the meet with nothing", ok(Meet(s, nothing)), nothing)
		l.equal("the difference with nothing", ok(Minus(s, nothing)), s)
		l.equal("nothing without it", ok(Minus(nothing, s)), nothing)
		l.equal("the union with everything", ok(Union(s, everything)), everything)
		l.equal("the meet with everything", ok(Meet(s, everything)), s)
		l.equal("everything without it", ok(Minus(everything, s)), ok(Not(s)))
		l.equal("by its fields", ok(Of(s.Left, s.Right, s.From, s.To, s.L)), s)
	}
	placed(see)
	l.end(0)
	for _, s := range append(longSets(t), someSets()...) {
		see(s)
	}
	l.end(130)
}

// pairLaws are those of two sets.
func pairLaws(l *laws, a, b api.Set) {
	ok := l.ok
	union, meet, minus := ok(Union(a, b)), ok(Meet(a, b)), ok(Minus(a, b))
	hasError := l.hasError
	l.equal("commutation of the union", union, ok(Union(b, a)))
	l.equal("commutation of the meet", meet, ok(Meet(b, a)))
	l.equal("absorption by the union", ok(Union(a, meet)), a)
	l.equal("absorption by the meet", ok(Meet(a, union)), a)
	l.equal("De Morgan's law for the union", ok(Not(union)), ok(Meet(ok(Not(a)), ok(Not(b)))))
	l.equal("De Morgan's law for the meet", ok(Not(meet)), ok(Union(ok(Not(a)), ok(Not(b)))))
	l.equal("the difference by Not", minus, ok(Meet(a, ok(Not(b)))))
	l.equal("the parts of a set", ok(Union(minus, meet)), a)
	for _, n := range []int{1, -5, 288, -100000} {
		movedA, movedB := ok(Move(a, n)), ok(Move(b, n))
		l.equal("the union moved", ok(Union(movedA, movedB)), ok(Move(union, n)))
		movedA, movedB = ok(Move(a, n)), ok(Move(b, n))
		l.equal("the difference moved", ok(Minus(movedA, movedB)), ok(Move(minus, n)))
	}
	if hasError {
		return
	}
	within, e := Within(a, b)
	if e != api.OK || within != Equal(meet, a) || within != Equal(union, b) || within != Equal(minus, pure(none)) {
		l.t.Errorf("Within(%s, %s) = %t, %d", brief(a), brief(b), within, e)
	}
	if both, f := Within(b, a); e != f || (within && both) != Equal(a, b) {
		l.t.Errorf("Within of %s and %s in both directions: %t, %d; %t, %d", brief(a), brief(b), within, e, both, f)
	}
}

func TestP149TwoSets(t *testing.T) {
	l := &laws{t: t}
	bs := small(cycles(2), -1, 2)
	for _, a := range small(append(cycles(2), cycle(3, 0, 1)), 0, 2) {
		for _, b := range bs {
			pairLaws(l, a, b)
		}
	}
	l.end(0)
	for _, a := range longSets(t) {
		for _, b := range longSets(t) {
			pairLaws(l, a, b)
		}
	}
	l.end(10)
}

// tripleLaws are those of three sets.
func tripleLaws(l *laws, a, b, c api.Set) {
	ok := l.ok
	l.equal("association of the union", ok(Union(ok(Union(a, b)), c)), ok(Union(a, ok(Union(b, c)))))
	l.equal("association of the meet", ok(Meet(ok(Meet(a, b)), c)), ok(Meet(a, ok(Meet(b, c)))))
	l.equal("distribution of the union", ok(Union(a, ok(Meet(b, c)))), ok(Meet(ok(Union(a, b)), ok(Union(a, c)))))
	l.equal("distribution of the meet", ok(Meet(a, ok(Union(b, c)))), ok(Union(ok(Meet(a, b)), ok(Meet(a, c)))))
	l.equal("the difference of a union", ok(Minus(a, ok(Union(b, c)))), ok(Minus(ok(Minus(a, b)), c)))
	l.equal("the difference of a meet", ok(Minus(a, ok(Meet(b, c)))), ok(Union(ok(Minus(a, b)), ok(Minus(a, c)))))
}

func TestP149ThreeSets(t *testing.T) {
	l := &laws{t: t}
	two, odd := cycle(2, 0, 1), cycle(2, 1, 2)
	sets := small([]api.Periodic{none, two}, 0, 1)
	sets = append(sets, pure(all), pure(odd), must(t, none, all, 0, 0, nil), must(t, all, odd, 1, 3, list(2, 3)), must(t, odd, two, -1, 2, list(0, 1)), must(t, none, cycle(3, 0, 2), 1, 1, nil))
	for _, a := range sets {
		for _, b := range sets {
			for _, c := range sets {
				tripleLaws(l, a, b, c)
			}
		}
	}
	l.end(0)
	long := longSets(t)
	for _, a := range long {
		for _, b := range long {
			for _, c := range long {
				tripleLaws(l, a, b, c)
			}
		}
	}
	l.end(700)
}

// TestP149Replace compares Replace with the operations, and puts back what it has taken.
func TestP149Replace(t *testing.T) {
	l := &laws{t: t}
	ok := l.ok
	for _, s := range append(longSets(t), small(cycles(3), 0, 2)...) {
		for _, in := range []api.Span{span(-2, 3), span(0, 1), span(100, 288), span(-300, 300), span(900, 901)} {
			inside, e := Window(s, in)
			if e != api.OK {
				continue
			}
			for _, part := range [][]api.Span{nil, list(in.From, in.From+1), list(in.From, in.To)} {
				replaced := ok(Replace(s, in, part))
				l.equal("what is put back", ok(Replace(replaced, in, inside)), s)
				l.equal("Replace by operations", ok(Replace(s, in, part)), ok(Union(ok(Minus(s, ok(From(list(in.From, in.To))))), ok(From(part)))))
				if got, e := Window(ok(Replace(s, in, part)), in); e != api.OK || !slices.Equal(got, part) {
					t.Errorf("Window of %s, replaced in %v by %v: %v, %d", brief(s), in, part, got, e)
				}
			}
		}
	}
	l.end(0)
}

// TestP149Moved moves sets there and back, and in two steps.
func TestP149Moved(t *testing.T) {
	l := &laws{t: t}
	ok := l.ok
	for _, s := range append(longSets(t), small(cycles(3), 0, 3)...) {
		for _, n := range []int{0, 1, 2, 77, 2016, -2016, 1 << 40, -1 << 41} {
			l.equal("moved back", ok(Move(ok(Move(s, n)), -n)), s)
			l.equal("moved in two steps", ok(Move(ok(Move(s, n/3)), n-n/3)), ok(Move(s, n)))
			l.equal("Not moved", ok(Not(ok(Move(s, n)))), ok(Move(ok(Not(s)), n)))
		}
	}
	l.end(0)
}

// TestP149Walk goes through sets with Next, Previous and Change, and compares what it finds with Window and Has.
func TestP149Walk(t *testing.T) {
	for i, s := range append(someSets(), longSets(t)...) {
		for _, at := range []int{s.From, s.To, 0, -line + 60, line - 60} {
			in := span(max(-line, at-60), min(line, at+60))
			want, e := Window(s, in)
			if e != api.OK || !runs.Valid(want) {
				t.Fatalf("Window of the set %d and %v: %d", i, in, e)
			}
			var byNext, byPrevious, byChange, byHas []api.Span
			for x, ok := Next(s, in.From); ok && x < in.To; x, ok = Next(s, x+1) {
				byNext = append(byNext, span(x, x+1))
			}
			for x, ok := Previous(s, in.To-1); ok && x >= in.From; x, ok = Previous(s, x-1) {
				byPrevious = append(byPrevious, span(x, x+1))
				if x == -line {
					break
				}
			}
			for x, ok := in.From, true; ok && x < in.To; {
				from := x
				if x, ok = Change(s, x); !ok {
					x = in.To
				}
				if Has(s, from) {
					byChange = append(byChange, span(from, min(x, in.To)))
				}
			}
			for x := in.From; x < in.To; x++ {
				if Has(s, x) {
					byHas = append(byHas, span(x, x+1))
				}
			}
			for name, l := range map[string][]api.Span{"Next": byNext, "Previous": byPrevious, "Change": byChange, "Has": byHas} {
				if joined, e := runs.Of(l); e != api.OK || !runs.Equal(joined, want) {
					t.Errorf("by %s, the set %d has %s in %v; want %s", name, i, brief(joined), in, brief(want))
				}
			}
		}
	}
}

// TestP149Windows divides windows, and finds what is not in a set in the rest of them.
func TestP149Windows(t *testing.T) {
	for i, s := range append(someSets(), longSets(t)...) {
		not, e := Not(s)
		for _, in := range []api.Span{span(-5, 5), span(s.From-5, s.From+5), span(s.To-7, s.To+3), span(-1000, 1000), span(-line, -line+40), span(line-40, line)} {
			in = span(max(-line, in.From), min(line, in.To))
			whole, f := Window(s, in)
			middle := (in.From + in.To) / 2
			left, g := Window(s, span(in.From, middle))
			right, h := Window(s, span(middle, in.To))
			if union, e := runs.Union(left, right); f != api.OK || g != api.OK || h != api.OK || e != api.OK || !runs.Equal(union, whole) {
				t.Errorf("Window of the set %d and %v: %s; of its parts: %s", i, in, brief(whole), brief(union))
			}
			if e != api.OK {
				continue
			}
			outside, f := Window(not, in)
			if rest, e := runs.Not(whole, in); f != api.OK || e != api.OK || !runs.Equal(rest, outside) {
				t.Errorf("Window of Not of the set %d and %v: %s; want %s", i, in, brief(outside), brief(rest))
			}
		}
	}
}
