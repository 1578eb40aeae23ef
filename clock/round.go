package clock

import (
	"civiltime/api"
	"civiltime/integer"
)

// Modes of rounding.
const (
	down = 1 + iota
	up
	nearest
)

// Round returns a multiple of unit near n, according to the mode.
func Round(n, unit, mode int) (int, api.Errno) {
	switch {
	case unit < 1 || unit > api.MaxLine || mode < down || mode > nearest:
		return 0, api.ErrArg
	case !onLine(n):
		return 0, api.ErrRange
	}
	rest := integer.Mod(n, unit)
	multiple := n - rest
	if (mode == up && rest > 0) || (mode == nearest && 2*rest >= unit) {
		multiple += unit
	}
	if !onLine(multiple) {
		return 0, api.ErrRange
	}
	return multiple, api.OK
}
