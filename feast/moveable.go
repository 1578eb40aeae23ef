package feast

import (
	"civiltime/api"
	"civiltime/civil"
)

// maxOffset is the absolute value of the greatest offset of a movable day.
const maxOffset = 400

// Moveable returns the day that comes offset days behind Easter Sunday of a year.
func Moveable(year, offset int) (int, api.Errno) {
	easter, e := Easter(year)
	if e != api.OK || offset < -maxOffset || offset > maxOffset {
		return 0, api.ErrRange
	}
	day := easter + offset
	if day < api.MinDay || day >= api.MaxDay {
		return 0, api.ErrRange
	}
	return day, api.OK
}

// Find returns the year in which a day lies, and by how many days it comes behind Easter Sunday of this year.
func Find(day int) (year, offset int, e api.Errno) {
	d, e := civil.Date(day)
	if e != api.OK {
		return 0, 0, e
	}
	easter, _ := Easter(d.Year)
	return d.Year, day - easter, api.OK
}

// Years returns the years whose movable day with an offset has a month and a day of the month.
func Years(offset, month, date, from, to int) []int {
	return filter(from, to, func(year int) bool {
		day, e := Moveable(year, offset)
		if e != api.OK {
			return false
		}
		d, _ := civil.Date(day)
		return d.Month == month && d.Day == date
	})
}

// filter returns the first MaxList of the years between from and to, both included, that fulfil a condition.
func filter(from, to int, condition func(year int) bool) []int {
	var l []int
	for year := max(from, api.MinYear); year <= min(to, api.MaxYear) && len(l) < api.MaxList; year++ {
		if condition(year) {
			l = append(l, year)
		}
	}
	return l
}
