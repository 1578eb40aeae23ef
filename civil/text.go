package civil

import (
	"civiltime/api"
	"civiltime/integer"
)

// layout is the form of a text: any digit stands for 0.
const layout = "0000-00-00"

// Text returns the text of a date, which is empty if the date is not valid.
func Text(d api.Date) string {
	if !Valid(d) {
		return ""
	}
	return integer.Text(d.Year, 4) + "-" + integer.Text(d.Month, 2) + "-" + integer.Text(d.Day, 2)
}

// Parse returns the date with the given text.
func Parse(s string) (api.Date, api.Errno) {
	if !hasLayout(s) {
		return api.Date{}, api.ErrForm
	}
	year, _ := integer.Parse(s[:4])
	month, _ := integer.Parse(s[5:7])
	day, _ := integer.Parse(s[8:])
	d := api.Date{Year: year, Month: month, Day: day}
	if !Valid(d) {
		return api.Date{}, api.ErrArg
	}
	return d, api.OK
}

// hasLayout reports whether s has digits and minus signs where a text has them.
func hasLayout(s string) bool {
	if len(s) != len(layout) {
		return false
	}
	for i := range len(layout) {
		c := s[i]
		if c >= '0' && c <= '9' {
			c = '0'
		}
		if c != layout[i] {
			return false
		}
	}
	return true
}
