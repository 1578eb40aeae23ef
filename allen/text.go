package allen

import (
	"strings"

	"civiltime/api"
	"civiltime/interval"
)

const (
	maxText    = 200
	textOfNone = "none"
	textOfAll  = "any"
	separator  = "|"
)

// Text returns the text of a set, which is empty for a number that is no set.
func Text(set int) string {
	switch {
	case !isSet(set):
		return ""
	case set == 0:
		return textOfNone
	case set == full:
		return textOfAll
	}
	var names []string
	for r := range members(set) {
		names = append(names, interval.Name(r))
	}
	return strings.Join(names, separator)
}

// Parse returns the set that a text names: none, any, or some relations in any order.
func Parse(s string) (int, api.Errno) {
	switch {
	case len(s) > maxText:
		return 0, api.ErrFull
	case s == textOfNone:
		return 0, api.OK
	case s == textOfAll:
		return full, api.OK
	}
	set, twice := 0, false
	for _, name := range strings.Split(s, separator) {
		r, e := interval.Parse(name)
		if e != api.OK {
			return 0, api.ErrForm
		}
		// A later part that is no name comes first among the errors.
		twice = twice || has(set, r)
		set |= 1 << r
	}
	if twice {
		return 0, api.ErrTwice
	}
	return set, api.OK
}
