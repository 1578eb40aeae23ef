package hebrew

import (
	"civiltime/api"
	"civiltime/integer"
)

// Times between conjunctions are counted in parts.
const (
	dayParts   = 25920
	overParts  = 13753 // of a mean month, over its 29 days
	monthParts = 29*dayParts + overParts
	firstParts = 876 // from the first conjunction to the first new year
)

// Elapsed returns the days from the first new year to a year, as far as its own conjunction and weekday determine them.
func Elapsed(year int) (int, api.Errno) {
	if !validYear(year) {
		return 0, api.ErrRange
	}
	return elapsed(year), api.OK
}

// New returns the day on which a year begins.
func New(year int) (int, api.Errno) {
	if !validYear(year) {
		return 0, api.ErrRange
	}
	return newYear(year), api.OK
}

// Molad returns the day and the part of the conjunction of a month.
func Molad(year, month int) (day, part int, e api.Errno) {
	if !validMonth(year, month) {
		return 0, 0, api.ErrRange
	}
	// The months below 7 come before the next year, whatever the number of months of this one is.
	next := year
	if month < 7 {
		next++
	}
	months := monthsBefore(next) + month - 7
	day, part, _ = integer.Div(monthParts*months-firstParts, dayParts)
	return Epoch + day, part, api.OK
}

// newYear is New for all years from 1 to the one behind the last. A year is put off where it would be too long, or the year before it too short.
func newYear(year int) int {
	days := elapsed(year)
	switch {
	case elapsed(year+1)-days == 356:
		days += 2
	case days-elapsed(year-1) == 382:
		days++
	}
	return Epoch + days
}

// elapsed is Elapsed for all years that have a part in a new year, from 0 on.
func elapsed(year int) int {
	months := monthsBefore(year)
	// A conjunction at noon or afterwards counts for the next day.
	days := 29*months + integer.Floor(dayParts/2-firstParts+overParts*months, dayParts)
	if integer.Mod(3*(days+1), 7) < 3 {
		// It would be a Sunday, a Wednesday, or a Friday.
		days++
	}
	return days
}

// monthsBefore returns the number of months from the beginning of the year 1 to that of a year.
func monthsBefore(year int) int { return integer.Floor(cycleMonths*(year-1)+1, cycleYears) }
