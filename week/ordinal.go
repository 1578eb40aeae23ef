package week

import (
	"civiltime/api"
	"civiltime/civil"
)

// Ordinal returns the calendar year of a day, and the number of the day in it.
func Ordinal(day int) (year, n int, e api.Errno) {
	d, e := civil.Date(day)
	if e != api.OK {
		return 0, 0, e
	}
	return d.Year, civil.YearDay(d), api.OK
}

// FromOrdinal returns the day with a number in a calendar year.
func FromOrdinal(year, n int) (int, api.Errno) {
	if !validYear(year) || n < 1 || n > newYear(year+1)-newYear(year) {
		return 0, api.ErrRange
	}
	return newYear(year) + n - 1, api.OK
}
