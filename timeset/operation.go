package timeset

import (
	"cmp"

	"civiltime/api"
	"civiltime/interval"
	"civiltime/periodic"
	"civiltime/runs"
)

// Union returns the set of the integers that are in a or b.
func Union(a, b api.Set) (api.Set, api.Errno) {
	return combine(a, b, periodic.Union, func(inA, inB bool) bool { return inA || inB })
}

// Meet returns the set of the integers that are in a and b.
func Meet(a, b api.Set) (api.Set, api.Errno) {
	return combine(a, b, periodic.Meet, func(inA, inB bool) bool { return inA && inB })
}

// Minus returns the set of the integers that are in a, but not in b.
func Minus(a, b api.Set) (api.Set, api.Errno) {
	return combine(a, b, periodic.Minus, func(inA, inB bool) bool { return inA && !inB })
}

// Within reports whether all integers of a are in b.
func Within(a, b api.Set) (bool, api.Errno) {
	rest, e := Minus(a, b)
	return e == api.OK && isPure(rest) && len(rest.Left.L) == 0, e
}

// Not returns the set of the integers that are not in s.
func Not(s api.Set) (api.Set, api.Errno) {
	if !Valid(s) {
		return api.Set{}, api.ErrArg
	}
	left, e := periodic.Not(s.Left)
	right, f := periodic.Not(s.Right)
	if e := cmp.Or(e, f, pair(left, right)); e != api.OK {
		return api.Set{}, e
	}
	set := viewOf(s)
	l := runsIn(api.Span{From: s.From, To: s.To}, func(x int) (bool, int) {
		in, next := set(x)
		return !in, next
	})
	if len(l) > api.MaxRuns {
		return api.Set{}, api.ErrFull
	}
	// What is not in the set departs from its Left, and arrives at its Right, where the set does.
	return api.Set{Left: left, Right: right, From: s.From, To: s.To, L: l}, api.OK
}

// Move returns the set of all x + n for x in s.
func Move(s api.Set, n int) (api.Set, api.Errno) {
	if !Valid(s) {
		return api.Set{}, api.ErrArg
	}
	left, e := periodic.Move(s.Left, n)
	right, f := periodic.Move(s.Right, n)
	if e := cmp.Or(e, f, pair(left, right)); e != api.OK {
		return api.Set{}, e
	}
	moved := api.Set{Left: left, Right: right}
	if isPure(s) {
		return moved, api.OK
	}
	moved.From, moved.To = s.From+n, s.To+n
	if !isOnLine(moved.From) || !isOnLine(moved.To) {
		return api.Set{}, api.ErrBig
	}
	moved.L, e = runs.Move(s.L, n)
	return moved, e
}

// Replace returns the set that contains, of the integers of an interval, those of a list, and of all others those of s.
func Replace(s api.Set, in api.Span, l []api.Span) (api.Set, api.Errno) {
	if !interval.Valid(in) || !isList(l, in.From, in.To) {
		return api.Set{}, api.ErrArg
	}
	// Neither of these is too big or too long: they are not more than what was given.
	inside, _ := From([]api.Span{in})
	added, _ := From(l)
	rest, e := Minus(s, inside)
	if e != api.OK {
		return api.Set{}, e
	}
	return Union(rest, added)
}

// combine returns the set of the integers for which keep is true, by whether they are in a, and in b; rule does the same for periodic sets.
func combine(a, b api.Set, rule func(a, b api.Periodic) (api.Periodic, api.Errno), keep func(inA, inB bool) bool) (api.Set, api.Errno) {
	if !Valid(a) || !Valid(b) {
		return api.Set{}, api.ErrArg
	}
	left, e := rule(a.Left, b.Left)
	right, f := rule(a.Right, b.Right)
	if e := cmp.Or(e, f, pair(left, right)); e != api.OK {
		return api.Set{}, e
	}
	in, viewA, viewB := window(a, b), viewOf(a), viewOf(b)
	if len(runsIn(in, viewA))+len(runsIn(in, viewB)) > api.MaxRuns {
		return api.Set{}, api.ErrFull
	}
	// The list cannot have more runs than both together: each one begins with a run of a or b, or behind a run of b that is taken away.
	l := runsIn(in, func(x int) (bool, int) {
		inA, nextA := viewA(x)
		inB, nextB := viewB(x)
		return keep(inA, inB), min(nextA, nextB)
	})
	return form(api.Set{Left: left, Right: right, From: in.From, To: in.To, L: l})
}

// window returns the window of two valid sets, of which both ends are the same number if it is empty.
func window(a, b api.Set) api.Span {
	switch {
	case isPure(a):
		return api.Span{From: b.From, To: b.To}
	case isPure(b):
		return api.Span{From: a.From, To: a.To}
	}
	return api.Span{From: min(a.From, b.From), To: max(a.To, b.To)}
}
