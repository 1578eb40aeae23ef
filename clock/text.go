package clock

import (
	"civiltime/api"
	"civiltime/civil"
	"civiltime/integer"
)

// layout is the form of a text: any digit stands for 0.
const layout = "0000-00-00T00:00:00"

// Text returns the text of a moment, which is empty if the moment is not valid.
func Text(m api.Moment) string {
	if !validMoment(m) {
		return ""
	}
	return civil.Text(m.Date) + "T" + integer.Text(m.Time.Hour, 2) + ":" + integer.Text(m.Time.Minute, 2) + ":" + integer.Text(m.Time.Second, 2)
}

// Parse returns the moment with the given text.
func Parse(s string) (api.Moment, api.Errno) {
	if !hasLayout(s) {
		return api.Moment{}, api.ErrForm
	}
	field := func(at, width int) int {
		n, _ := integer.Parse(s[at : at+width])
		return n
	}
	m := api.Moment{
		Date: api.Date{Year: field(0, 4), Month: field(5, 2), Day: field(8, 2)},
		Time: api.Time{Hour: field(11, 2), Minute: field(14, 2), Second: field(17, 2)},
	}
	if !validMoment(m) {
		return api.Moment{}, api.ErrArg
	}
	return m, api.OK
}

// hasLayout reports whether s has digits, and other bytes, where the layout has them.
func hasLayout(s string) bool {
	if len(s) != len(layout) {
		return false
	}
	for i := range len(layout) {
		switch {
		case s[i] == layout[i]:
		case layout[i] != '0' || !isDigit(s[i]):
			return false
		}
	}
	return true
}

func isDigit(c byte) bool { return c >= '0' && c <= '9' }
