package hebrew

import (
	"civiltime/api"
	"civiltime/integer"
)

// Day returns the day of a date.
func Day(d api.Date) (int, api.Errno) {
	if !valid(d) {
		return 0, api.ErrRange
	}
	day := dayOf(d)
	if !validDay(day) {
		return 0, api.ErrRange
	}
	return day, api.OK
}

// Date returns the date with the given day.
func Date(day int) (api.Date, api.Errno) {
	if !validDay(day) {
		return api.Date{}, api.ErrRange
	}
	return dateOf(day), api.OK
}

// dayOf returns the day that comes d.Day - 1 days behind the first day of the month of d, also if the month has fewer days.
func dayOf(d api.Date) int {
	day := newYear(d.Year) + d.Day - 1
	for _, month := range order(d.Year) {
		if month == d.Month {
			break
		}
		day += Length(d.Year, month)
	}
	return day
}

// dateOf is Date for all days of the calendar.
func dateOf(day int) api.Date {
	// A year begins less than a month before the time that the mean length of years gives, and at most a few days behind it. So this is the year of the day, or one of the two before it.
	year := integer.Floor((day-Epoch)*dayParts*cycleYears, cycleMonths*monthParts)
	for newYear(year+1) <= day {
		year++
	}
	d := api.Date{Year: year, Day: day - newYear(year) + 1}
	for _, d.Month = range order(year) {
		n := Length(year, d.Month)
		if d.Day <= n {
			break
		}
		d.Day -= n
	}
	return d
}

func valid(d api.Date) bool { return d.Day >= 1 && d.Day <= Length(d.Year, d.Month) }

func validDay(day int) bool { return day >= api.MinDay && day < api.MaxDay }
