package julian

import (
	"civiltime/api"
	"civiltime/civil"
)

// Switch returns the reform with the given first Gregorian day.
func Switch(first int) api.Reform { return api.Reform{First: first} }

// Mixed returns the date of a day in the calendar with a reform.
func Mixed(r api.Reform, day int) (api.Date, api.Errno) {
	switch {
	case !validReform(r):
		return api.Date{}, api.ErrArg
	case day < r.First:
		return Date(day)
	default:
		return civil.Date(day)
	}
}

// MixedDay returns the least day that has the given date in the calendar with a reform.
func MixedDay(r api.Reform, d api.Date) (int, api.Errno) {
	// Each valid Gregorian date is a valid Julian one too.
	if !validReform(r) || !valid(d) {
		return 0, api.ErrArg
	}
	before, beforeE := Day(d)
	from, fromE := civil.Day(d)
	// Both may be right where the Julian calendar is ahead of the Gregorian one, in the first two centuries: the Julian day is the lesser one then.
	switch {
	case beforeE == api.OK && before < r.First:
		return before, api.OK
	case fromE == api.OK && from >= r.First:
		return from, api.OK
	}
	return 0, api.ErrNone
}

func validReform(r api.Reform) bool { return r.First >= api.MinDay && r.First <= api.MaxDay }
