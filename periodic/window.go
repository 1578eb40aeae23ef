package periodic

import (
	"civiltime/api"
	"civiltime/integer"
	"civiltime/interval"
	"civiltime/runs"
)

// Window returns the canonical list of the integers of a set that are in a span.
func Window(p api.Periodic, in api.Span) ([]api.Span, api.Errno) {
	if !Valid(p) || !interval.Valid(in) {
		return nil, api.ErrArg
	}
	l := listed(p, in)
	if len(l) > api.MaxRuns {
		return nil, api.ErrFull
	}
	return l, api.OK
}

// Count returns how many integers of a set are in a span.
func Count(p api.Periodic, in api.Span) (int, api.Errno) {
	if !Valid(p) || !interval.Valid(in) {
		return 0, api.ErrArg
	}
	return rank(p, in.To) - rank(p, in.From), api.OK
}

// Next returns the least integer of a set that is at least x, and true; 0 and false if there is none, the set is not valid, or x is not on the line.
func Next(p api.Periodic, x int) (int, bool) {
	if !Valid(p) || len(p.L) == 0 || !isOnLine(x) {
		return 0, false
	}
	from := integer.Mod(x, p.Period)
	start := x - from
	if next, ok := runs.Next(p.L, from); ok {
		return start + next, true
	}
	return start + p.Period + p.L[0].From, true
}

// listed returns the canonical list of the integers of a valid set that are in a valid span; if it would have more than MaxRuns spans, only some of them, but more than MaxRuns, so that it ends soon.
func listed(p api.Periodic, in api.Span) []api.Span {
	period, l := circle(p.Period, p.L)
	switch {
	case len(l) == 0:
		return nil
	case interval.Length(l[0]) == period:
		return []api.Span{in}
	}
	var found []api.Span
	// The last span of one period may reach into the next one, so that of the period before is needed.
	for start := (integer.Floor(in.From, period) - 1) * period; start < in.To && len(found) <= api.MaxRuns; start += period {
		for _, s := range l {
			from, to := max(in.From, start+s.From), min(in.To, start+s.To)
			if from < to {
				found = append(found, api.Span{From: from, To: to})
			}
		}
	}
	return found
}

// rank returns how many integers of a valid set are at least 0 and less than x, or the negative number of those that are less than 0 and at least x.
func rank(p api.Periodic, x int) int {
	return integer.Floor(x, p.Period)*runs.Measure(p.L) + runs.Rank(p.L, integer.Mod(x, p.Period))
}
