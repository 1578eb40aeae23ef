package week

import (
	"civiltime/api"
	"civiltime/integer"
)

const (
	// layout is the form of a text: any digit stands for 0.
	layout = "0000-W00-0"
	// maxWeek is the greatest number of a week in a text. It is more than a year has by any rule, since texts know no rule.
	maxWeek = 54
)

// Text returns the text of a date of weeks, which is empty if a number is out of range by every rule.
func Text(d api.WeekDate) string {
	if !validYear(d.Year) || d.Week < 1 || d.Week > maxWeek || !validWeekday(d.Weekday) {
		return ""
	}
	return integer.Text(d.Year, 4) + "-W" + integer.Text(d.Week, 2) + "-" + integer.Text(d.Weekday, 1)
}

// Parse returns the date of weeks with the given text.
func Parse(s string) (api.WeekDate, api.Errno) {
	if len(s) != len(layout) {
		return api.WeekDate{}, api.ErrForm
	}
	var text [len(layout)]byte
	copy(text[:], s)
	if !hasLayout(text) {
		return api.WeekDate{}, api.ErrForm
	}
	d := api.WeekDate{Year: number(text[:4]), Week: number(text[6:8]), Weekday: number(text[9:])}
	if Text(d) == "" {
		return api.WeekDate{}, api.ErrRange
	}
	return d, api.OK
}

// hasLayout reports whether a text has digits, and other bytes, where the layout has them. The array is a copy, so that its digits can be overwritten.
func hasLayout(text [len(layout)]byte) bool {
	for i, c := range text {
		if c >= '0' && c <= '9' {
			text[i] = '0'
		}
	}
	return string(text[:]) == layout
}

func number(digits []byte) int {
	n, _ := integer.Parse(string(digits))
	return n
}
