package allen

import (
	"civiltime/api"
	"civiltime/interval"
)

// maxWindow is the greatest length of a span whose intervals are listed.
const maxWindow = 40

// Possible returns the intervals within the span from lo to hi from which a set holds to a, ascending.
func Possible(set int, a api.Span, lo, hi int) []api.Span {
	window := api.Span{From: lo, To: hi}
	if !interval.Valid(window) || interval.Length(window) > maxWindow {
		return nil
	}
	var found []api.Span
	for from := lo; from < hi; from++ {
		for to := from + 1; to <= hi; to++ {
			if s := (api.Span{From: from, To: to}); Holds(set, s, a) {
				found = append(found, s)
			}
		}
	}
	return found
}
