package timeset

import (
	"civiltime/api"
	"civiltime/interval"
)

// Window returns the canonical list of the integers of a set that are in an interval.
func Window(s api.Set, in api.Span) ([]api.Span, api.Errno) {
	if !Valid(s) || !interval.Valid(in) {
		return nil, api.ErrArg
	}
	l := runsIn(in, viewOf(s))
	if len(l) > api.MaxRuns {
		return nil, api.ErrFull
	}
	return l, api.OK
}

// Next returns the least integer of a set that is at least x, and true; 0 and false if there is none on the line, the set is not valid, or x is not on the line.
func Next(s api.Set, x int) (int, bool) {
	if !Valid(s) || !isOnLine(x) {
		return 0, false
	}
	return onLine(first(viewOf(s), x))
}

// Previous returns the greatest integer of a set that is at most x, and true; 0 and false as Next.
func Previous(s api.Set, x int) (int, bool) {
	if !Valid(s) || !isOnLine(x) {
		return 0, false
	}
	return onLine(-1 - first(viewOf(mirror(s)), -1-x))
}

// Change returns the least integer behind x that is in a set, whereas the one before is not, or the other way round, and true; 0 and false as Next.
func Change(s api.Set, x int) (int, bool) {
	if !Valid(s) || !isOnLine(x) {
		return 0, false
	}
	return onLine(change(viewOf(s), x))
}

// onLine returns a number and true if it is on the line; otherwise 0 and false.
func onLine(x int) (int, bool) {
	if !isOnLine(x) {
		return 0, false
	}
	return x, true
}
