package hebrew

import (
	"civiltime/api"
)

// Anniversary returns the date in a year that corresponds to a date.
func Anniversary(d api.Date, year int) (api.Date, api.Errno) {
	if !valid(d) || !validYear(year) {
		return api.Date{}, api.ErrRange
	}
	month := d.Month
	if month == Months(d.Year) {
		month = Months(year)
	}
	// No anniversary lies behind the given year, since the month 6, with which years end, has the same length in all of them.
	return dateOf(dayOf(api.Date{Year: year, Month: month, Day: d.Day})), api.OK
}
