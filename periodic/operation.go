package periodic

import (
	"civiltime/api"
	"civiltime/integer"
	"civiltime/runs"
)

// Union returns the set of the integers that are in a or b.
func Union(a, b api.Periodic) (api.Periodic, api.Errno) { return combine(a, b, runs.Union) }

// Meet returns the set of the integers that are in a and b.
func Meet(a, b api.Periodic) (api.Periodic, api.Errno) { return combine(a, b, runs.Meet) }

// Minus returns the set of the integers that are in a, but not in b.
func Minus(a, b api.Periodic) (api.Periodic, api.Errno) { return combine(a, b, runs.Minus) }

// Within reports whether all integers of a are in b.
func Within(a, b api.Periodic) (bool, api.Errno) {
	rest, e := Minus(a, b)
	return e == api.OK && len(rest.L) == 0, e
}

// Not returns the set of the integers that are not in p.
func Not(p api.Periodic) (api.Periodic, api.Errno) {
	if !Valid(p) {
		return api.Periodic{}, api.ErrArg
	}
	l, e := runs.Not(p.L, api.Span{From: 0, To: p.Period})
	if e != api.OK {
		return api.Periodic{}, e
	}
	// A set and what is not in it have the same periods.
	return api.Periodic{Period: p.Period, L: l}, api.OK
}

// Move returns the set of all x + n with x in p.
func Move(p api.Periodic, n int) (api.Periodic, api.Errno) {
	switch {
	case !Valid(p):
		return api.Periodic{}, api.ErrArg
	case !isOnLine(n):
		return api.Periodic{}, api.ErrRange
	}
	moved, e := runs.Move(p.L, integer.Mod(n, p.Period))
	if e != api.OK {
		return api.Periodic{}, e
	}
	return Of(p.Period, moved)
}

// combine returns the set that a rule for lists makes of the spans of two sets in their common period.
func combine(a, b api.Periodic, rule func(a, b []api.Span) ([]api.Span, api.Errno)) (api.Periodic, api.Errno) {
	period, e := common(a, b)
	if e != api.OK {
		return api.Periodic{}, e
	}
	// By the conditions of the pair, neither list has more than MaxRuns spans.
	in := api.Span{From: 0, To: period}
	l, e := rule(listed(a, in), listed(b, in))
	if e != api.OK {
		return api.Periodic{}, e
	}
	return form(period, l)
}

// common returns the least common period of two sets that are valid and fulfil the conditions of a pair.
func common(a, b api.Periodic) (int, api.Errno) {
	if !Valid(a) || !Valid(b) {
		return 0, api.ErrArg
	}
	period, e := integer.Lcm(a.Period, b.Period)
	switch {
	case e != api.OK, period > api.MaxPeriod:
		return 0, api.ErrBig
	case period/a.Period*len(a.L)+period/b.Period*len(b.L) > api.MaxRuns:
		return 0, api.ErrFull
	}
	return period, api.OK
}

func isOnLine(n int) bool { return -api.MaxLine <= n && n <= api.MaxLine }
