package civil

import (
	"civiltime/api"
	"civiltime/integer"
)

// AddMonths returns the date n months later, with the day of d or the last one of the month that is reached.
func AddMonths(d api.Date, n int) (api.Date, api.Errno) {
	if !Valid(d) {
		return api.Date{}, api.ErrArg
	}
	months, e := integer.Add(12*d.Year+d.Month-1, n)
	if e != api.OK {
		return api.Date{}, api.ErrRange
	}
	year, month, _ := integer.Div(months, 12)
	if !validYear(year) {
		return api.Date{}, api.ErrRange
	}
	month++
	return api.Date{Year: year, Month: month, Day: min(d.Day, Length(year, month))}, api.OK
}

// maxNth is the greatest number of dates with one weekday in a month.
const maxNth = 5

// Nth returns the day of the n-th date with a weekday in a month, counted from its end for negative n.
func Nth(year, month, weekday, n int) (int, api.Errno) {
	switch {
	case Length(year, month) == 0 || weekday < api.Monday || weekday > api.Sunday || n == 0:
		return 0, api.ErrArg
	case n < -maxNth || n > maxNth:
		return 0, api.ErrNone
	}
	first, _ := Day(api.Date{Year: year, Month: month, Day: 1})
	last := first + Length(year, month) - 1
	day := first + integer.Mod(weekday-Weekday(first), 7) + 7*(n-1)
	if n < 0 {
		day = last - integer.Mod(Weekday(last)-weekday, 7) + 7*(n+1)
	}
	if day < first || day > last {
		return 0, api.ErrNone
	}
	return day, api.OK
}
