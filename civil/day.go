package civil

import (
	"civiltime/api"
	"civiltime/integer"
)

// Days are counted from March 1 of a year that is divisible by 400, since years that begin in March have their leap day at the end, and so have the centuries and the cycle of 400 years.
const (
	originYear  = 2000
	originDay   = 11017 // 2000-03-01
	cycleYears  = 400
	cycleDays   = 146097
	centuryDays = 36524 // without the leap day that only the last century of a cycle has
	fourDays    = 1461  // four years
	yearDays    = 365   // without the leap day that only the last of four years has
)

// Day returns the day of a date.
func Day(d api.Date) (int, api.Errno) {
	if !Valid(d) {
		return 0, api.ErrArg
	}
	year, month := d.Year, d.Month-3
	if month < 0 {
		year, month = year-1, month+12
	}
	cycle, rest, _ := integer.Div(year-originYear, cycleYears)
	return originDay + cycle*cycleDays + rest*yearDays + rest/4 - rest/100 + daysBefore(month) + d.Day - 1, api.OK
}

// Date returns the date with the given day.
func Date(day int) (api.Date, api.Errno) {
	if !validDay(day) {
		return api.Date{}, api.ErrRange
	}
	cycle, rest, _ := integer.Div(day-originDay, cycleDays)
	// The last century, and the last of four years, keep their leap day.
	century := min(rest/centuryDays, 3)
	rest -= century * centuryDays
	four := rest / fourDays
	rest -= four * fourDays
	one := min(rest/yearDays, 3)
	rest -= one * yearDays
	month := monthOf(rest)
	d := api.Date{
		Year:  originYear + cycle*cycleYears + century*100 + four*4 + one,
		Month: month + 3,
		Day:   rest - daysBefore(month) + 1,
	}
	if d.Month > 12 {
		d.Year, d.Month = d.Year+1, d.Month-12
	}
	return d, api.OK
}

// daysBefore returns the number of days from March 1 to the first day of a month, with March as month 0. The lengths of these months repeat after five of them, which are 153 days; only the last one is shorter.
func daysBefore(month int) int { return (153*month + 2) / 5 }

// monthOf returns the month, with March as month 0, of the day that comes the given number of days after March 1.
func monthOf(days int) int { return (5*days + 2) / 153 }

// Weekday returns the weekday of a day, or 0 if it is out of range.
func Weekday(day int) int {
	if !validDay(day) {
		return 0
	}
	return integer.Mod(day+api.Thursday-1, 7) + 1
}

// YearDay returns the number of the day in its year, or 0 if the date is not valid.
func YearDay(d api.Date) int {
	day, e := Day(d)
	if e != api.OK {
		return 0
	}
	first, _ := Day(api.Date{Year: d.Year, Month: 1, Day: 1})
	return day - first + 1
}
