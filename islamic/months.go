package islamic

import (
	"civiltime/api"
	"civiltime/integer"
)

// cycleMonths is the number of months of a cycle.
const cycleMonths = 12 * cycleYears

// Months returns the calendar whose granules are n months each, the granule 0 being the one with which the year from begins.
func Months(kind, from, n int) (api.Calendar, api.Errno) {
	switch {
	case !Valid(kind) || n < 1 || n > cycleMonths || integer.Mod(cycleMonths, n) != 0:
		return api.Calendar{}, api.ErrArg
	case from < 1 || from > MaxYear || integer.Mod(from-1, cycleYears) != 0:
		return api.Calendar{}, api.ErrRange
	}
	first, _ := New(kind, from)
	l := make([]api.Span, 0, cycleMonths/n)
	for month := 0; month < cycleMonths; month += n {
		l = append(l, api.Span{From: daysInCycle(kind, month), To: daysInCycle(kind, month+n)})
	}
	return api.Calendar{Origin: first, Period: cycleDays, L: l}, api.OK
}

// daysInCycle returns the number of days of the first months of a cycle, of at most all of them.
func daysInCycle(kind, months int) int {
	years, rest, _ := integer.Div(months, 12)
	return daysOfYears(kind, years) + daysOfMonths(rest)
}
