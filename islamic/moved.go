package islamic

import (
	"civiltime/api"
	"civiltime/civil"
)

// Moved returns the days of a Gregorian year on which the month and the day of d occur.
func Moved(kind int, d api.Date, year int) ([]int, api.Errno) {
	switch {
	case !Valid(kind) || d.Day < 1 || d.Day > longest(d.Month):
		return nil, api.ErrArg
	case year < api.MinYear || year > api.MaxYear:
		return nil, api.ErrRange
	}
	first, _ := civil.Day(api.Date{Year: year, Month: 1, Day: 1})
	last, _ := civil.Day(api.Date{Year: year, Month: 12, Day: 31})
	from, e := Date(kind, max(first, originDay))
	if e != api.OK {
		// The Gregorian year lies behind the last day of this calendar.
		return nil, api.OK
	}
	var l []int
	// A Gregorian year has fewer days than two years of this calendar, and so lies in three of them at most.
	for y := from.Year; y <= from.Year+2; y++ {
		day, e := Day(kind, api.Date{Year: y, Month: d.Month, Day: d.Day})
		if e == api.OK && day >= first && day <= last {
			l = append(l, day)
		}
	}
	return l, api.OK
}

// longest returns the greatest length of a month in all years, or 0 if there is no such month.
func longest(month int) int {
	switch {
	case month < 1 || month > 12:
		return 0
	case month%2 == 1 || month == 12:
		return 30
	}
	return 29
}
