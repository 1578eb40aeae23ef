package julian

import (
	"civiltime/api"
	"civiltime/civil"
	"civiltime/integer"
)

// Days are counted from March 1 of the year 0, since years that begin in March have their leap day at the end, and so have each four of them from that year on.
const (
	originDay = api.MinDay - 308 // 306 days before 1-1-1, which is two days before MinDay
	fourDays  = 1461             // four years
	yearDays  = 365              // without the leap day that only the last of four years has
)

// dayZero is the Julian day number of the day 0.
const dayZero = 2440588

// Day returns the day of a Julian date.
func Day(d api.Date) (int, api.Errno) {
	if !valid(d) {
		return 0, api.ErrArg
	}
	year, month := fromMarch(d)
	day := originDay + year*yearDays + integer.Floor(year, 4) + daysBefore(month) + d.Day - 1
	if !validDay(day) {
		return 0, api.ErrRange
	}
	return day, api.OK
}

// Date returns the Julian date with the given day.
func Date(day int) (api.Date, api.Errno) {
	if !validDay(day) {
		return api.Date{}, api.ErrRange
	}
	four, rest, _ := integer.Div(day-originDay, fourDays)
	// The last of four years keeps its leap day.
	one := min(integer.Floor(rest, yearDays), 3)
	rest -= one * yearDays
	month := monthOf(rest)
	d := api.Date{Year: 4*four + one, Month: month + 3, Day: rest - daysBefore(month) + 1}
	if d.Month > 12 {
		d.Year, d.Month = d.Year+1, d.Month-12
	}
	return d, api.OK
}

// Number returns the Julian day number of a day.
func Number(day int) (int, api.Errno) {
	if !validDay(day) {
		return 0, api.ErrRange
	}
	return day + dayZero, api.OK
}

// Offset returns by how many days the Gregorian date of a day, read as a Julian one, lies behind the day.
func Offset(day int) (int, api.Errno) {
	d, e := civil.Date(day)
	if e != api.OK {
		return 0, e
	}
	year, _ := fromMarch(d)
	return integer.Floor(year, 100) - integer.Floor(year, 400) - 2, api.OK
}

// fromMarch returns the year that begins in March in which a date lies, and the month in it, with March as month 0.
func fromMarch(d api.Date) (year, month int) {
	if d.Month < 3 {
		return d.Year - 1, d.Month + 9
	}
	return d.Year, d.Month - 3
}

// daysBefore returns the number of days from March 1 to the first day of a month, with March as month 0. The lengths of these months repeat after five of them, which are 153 days; only the last one is shorter.
func daysBefore(month int) int { return integer.Floor(153*month+2, 5) }

// monthOf returns the month, with March as month 0, of the day that comes the given number of days after March 1.
func monthOf(days int) int { return integer.Floor(5*days+2, 153) }
