package islamic

import (
	"math/bits"

	"civiltime/api"
	"civiltime/integer"
)

// The calendar consists of whole cycles, so that all kinds begin and end on the same days.
const (
	originDay = -492148                                  // 1-1-1
	endDay    = originDay + MaxYear/cycleYears*cycleDays // behind the last day
	cycleDays = cycleYears*yearDays + 11                 // with its leap days
	yearDays  = 354                                      // without the leap day
)

// New returns the first day of a year, also of the one behind the last.
func New(kind, year int) (int, api.Errno) {
	switch {
	case !Valid(kind):
		return 0, api.ErrArg
	case year < 1 || year > MaxYear+1:
		return 0, api.ErrRange
	}
	cycle, years, _ := integer.Div(year-1, cycleYears)
	return originDay + cycle*cycleDays + daysOfYears(kind, years), api.OK
}

// Day returns the day of a date.
func Day(kind int, d api.Date) (int, api.Errno) {
	if d.Day < 1 || d.Day > Length(kind, d.Year, d.Month) {
		return 0, api.ErrArg
	}
	first, _ := New(kind, d.Year)
	return first + daysOfMonths(d.Month-1) + d.Day - 1, api.OK
}

// Date returns the date with the given day.
func Date(kind, day int) (api.Date, api.Errno) {
	switch {
	case !Valid(kind):
		return api.Date{}, api.ErrArg
	case day < originDay || day >= endDay:
		return api.Date{}, api.ErrRange
	}
	cycle, rest, _ := integer.Div(day-originDay, cycleDays)
	years := yearsWithin(kind, rest)
	rest -= daysOfYears(kind, years)
	months := monthsWithin(rest)
	return api.Date{Year: cycle*cycleYears + years + 1, Month: months + 1, Day: rest - daysOfMonths(months) + 1}, api.OK
}

// daysOfYears returns the number of days of the first years of a cycle, of at most all of them.
func daysOfYears(kind, years int) int {
	before := uint32(1)<<(years+1) - 1
	return years*yearDays + bits.OnesCount32(leapYears[kind]&before)
}

// yearsWithin returns how many years of a cycle end within its first days, which are fewer than the whole cycle.
func yearsWithin(kind, days int) int {
	years := integer.Floor(days, yearDays)
	// The leap days of a cycle are fewer than the days of a year, so that they move the day by one year at most.
	if daysOfYears(kind, years) > days {
		years--
	}
	return years
}

// daysOfMonths returns the number of days of the first months of a year. Each two of them have 59 days, and the first one of these has one more than the second one.
func daysOfMonths(months int) int { return integer.Floor(59*months+1, 2) }

// monthsWithin returns how many months of a year end within its first days, which are fewer than the whole year. The last month keeps its leap day.
func monthsWithin(days int) int { return min(integer.Floor(2*days, 59), 11) }
