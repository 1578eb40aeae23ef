package clock

import (
	"strings"

	"civiltime/api"
	"civiltime/integer"
)

// unit is what the number of a part of a duration counts.
type unit struct {
	letter  byte
	seconds int
}

// units are the units of the parts, in the order of the parts in a text.
var units = [4]unit{{'D', api.DaySeconds}, {'H', hourSeconds}, {'M', minuteSeconds}, {'S', 1}}

// timeUnits is the place of the first unit that stands after the letter T.
const timeUnits = 1

// Duration returns the text of a duration of n seconds, which is empty if n is too big.
func Duration(n int) string {
	switch {
	case !onLine(n):
		return ""
	case n == 0:
		return "PT0S"
	case n < 0:
		return "-" + Duration(-n)
	}
	text, timed := "P", false
	for i, u := range units {
		count := n / u.seconds
		n %= u.seconds
		if count == 0 {
			continue
		}
		if i >= timeUnits && !timed {
			text, timed = text+"T", true
		}
		text += integer.Text(count, 0) + string(rune(u.letter))
	}
	return text
}

// ParseDuration returns the number of seconds of a duration in general form.
func ParseDuration(s string) (int, api.Errno) {
	s, negative := strings.CutPrefix(s, "-")
	s, begun := strings.CutPrefix(s, "P")
	days, times, timed := strings.Cut(s, "T")
	// Nothing may stand for the days only if there is a T, and nothing for the times only if there is none.
	if !begun || (days == "" && !timed) || (times == "" && timed) {
		return 0, api.ErrForm
	}
	a, daysRead := sumParts(days, 0, timeUnits)
	b, timesRead := sumParts(times, timeUnits, len(units))
	n := a + b
	switch {
	case !daysRead || !timesRead:
		return 0, api.ErrForm
	case !onLine(n):
		return 0, api.ErrBig
	case negative:
		n = -n
	}
	return n, api.OK
}

// sumParts returns the value of s, which consists of parts with some of the units from one place to another one, in their order; ok is false if s has another form. A value of more than MaxLine may be another one of more than MaxLine.
func sumParts(s string, from, to int) (sum int, ok bool) {
parts:
	for i := from; i < to; i++ {
		n, digits := number(s)
		switch {
		case digits == len(s):
			break parts
		case digits == 0 || s[digits] != units[i].letter:
			continue
		}
		sum += n * units[i].seconds
		s = s[digits+1:]
	}
	return sum, s == ""
}

// number returns the number at the beginning of s, and how many digits it has. A number of more than MaxLine becomes MaxLine + 1, so that neither it nor the seconds of a few parts with it leave the range of int.
func number(s string) (n, digits int) {
	for digits < len(s) && isDigit(s[digits]) {
		n = min(10*n+int(s[digits]-'0'), api.MaxLine+1)
		digits++
	}
	return n, digits
}
