package runs

import "civiltime/api"

// beyond is greater than all ends of spans.
const beyond = api.MaxLine + 1

// Union returns the canonical list of the integers that are in a or b.
func Union(a, b []api.Span) ([]api.Span, api.Errno) {
	return combine(a, b, func(inA, inB bool) bool { return inA || inB })
}

// Meet returns the canonical list of the integers that are in a and b.
func Meet(a, b []api.Span) ([]api.Span, api.Errno) {
	return combine(a, b, func(inA, inB bool) bool { return inA && inB })
}

// Minus returns the canonical list of the integers that are in a, but not in b.
func Minus(a, b []api.Span) ([]api.Span, api.Errno) {
	return combine(a, b, func(inA, inB bool) bool { return inA && !inB })
}

// Either returns the canonical list of the integers that are in exactly one of a and b.
func Either(a, b []api.Span) ([]api.Span, api.Errno) {
	return combine(a, b, func(inA, inB bool) bool { return inA != inB })
}

// Not returns the canonical list of the integers of a span that are not in a.
func Not(a []api.Span, in api.Span) ([]api.Span, api.Errno) {
	return Minus([]api.Span{in}, a)
}

// combine returns the canonical list of the integers for which keep is true, by whether they are in a, and in b; it must be false for those that are in neither.
func combine(a, b []api.Span, keep func(inA, inB bool) bool) ([]api.Span, api.Errno) {
	if !Valid(a) || !Valid(b) {
		return nil, api.ErrArg
	}
	var kept []api.Span
	i, j, from, keeping := 0, 0, 0, false
	// One step for each place where one or both of the lists change, so that the spans which result cannot touch.
	for i < 2*len(a) || j < 2*len(b) {
		x := min(end(a, i), end(b, j))
		if end(a, i) == x {
			i++
		}
		if end(b, j) == x {
			j++
		}
		before := keeping
		keeping = keep(isInside(i), isInside(j))
		switch {
		case keeping && !before:
			from = x
		case before && !keeping:
			kept = append(kept, api.Span{From: from, To: x})
		}
	}
	return limited(kept)
}

// end returns the end with the number i of a canonical list, in which a From and a To take turns; beyond if there is none.
func end(l []api.Span, i int) int {
	switch {
	case i >= 2*len(l):
		return beyond
	case i%2 == 0:
		return l[i/2].From
	}
	return l[i/2].To
}

// isInside reports whether a span has begun, and not ended, after the given number of ends.
func isInside(ends int) bool { return ends%2 == 1 }
