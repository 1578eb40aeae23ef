package timeset

import (
	"math"
	"slices"
	"sort"

	"civiltime/api"
	"civiltime/integer"
)

// A view of a set reports whether the set contains x, and returns a place behind x before which this does not change; far if it never does.
type view func(x int) (in bool, next int)

// far is behind all places.
const far = math.MaxInt

// viewOfList returns the view of a canonical list.
func viewOfList(l []api.Span) view {
	return func(x int) (bool, int) {
		i := sort.Search(len(l), func(i int) bool { return x < l[i].To })
		switch {
		case i == len(l):
			return false, far
		case x < l[i].From:
			return false, l[i].From
		}
		return true, l[i].To
	}
}

// viewOfPeriodic returns the view of a valid periodic set.
func viewOfPeriodic(p api.Periodic) view {
	period := viewOfList(p.L)
	return func(x int) (bool, int) {
		rest := integer.Mod(x, p.Period)
		in, next := period(rest)
		if p.Period == 1 {
			// All integers, or none.
			return in, far
		}
		return in, x - rest + min(next, p.Period)
	}
}

// viewOf returns the view of a set whose parts are valid, also if it is not canonical.
func viewOf(s api.Set) view {
	left, between, right := viewOfPeriodic(s.Left), viewOfList(s.L), viewOfPeriodic(s.Right)
	return func(x int) (bool, int) {
		switch {
		case x < s.From:
			in, next := left(x)
			return in, min(next, s.From)
		case x < s.To:
			in, next := between(x)
			return in, min(next, s.To)
		}
		return right(x)
	}
}

// runsIn returns the runs of a set from in.From to in.To - 1; if they are more than MaxRuns, only some of them, but more than MaxRuns, so that it ends soon.
func runsIn(in api.Span, set view) []api.Span {
	var l []api.Span
	for x := in.From; x < in.To && len(l) <= api.MaxRuns; {
		isIn, next := set(x)
		next = min(next, in.To)
		switch last := len(l) - 1; {
		case !isIn:
		case last >= 0 && l[last].To == x:
			l[last].To = next
		default:
			l = append(l, api.Span{From: x, To: next})
		}
		x = next
	}
	return l
}

// change returns the least integer behind x that is in a set, whereas the one before is not, or the other way round; far if there is none.
func change(set view, x int) int {
	before, y := set(x)
	for y != far {
		in, next := set(y)
		if in != before {
			return y
		}
		y = next
	}
	return far
}

// first returns the least integer of a set that is at least x; far if there is none.
func first(set view, x int) int {
	if in, _ := set(x); in {
		return x
	}
	return change(set, x)
}

// departure returns the least integer at which a set is not as its Left, and true; false if there is none.
func departure(s api.Set) (int, bool) {
	end := s.To
	if !isSame(s.Left, s.Right) {
		// Different periodic sets are different somewhere behind every number.
		end = far
	}
	set, left := viewOf(s), viewOfPeriodic(s.Left)
	for x := s.From; x < end; {
		in, next := set(x)
		inLeft, nextLeft := left(x)
		if in != inLeft {
			return x, true
		}
		x = min(next, nextLeft)
	}
	return 0, false
}

// differAt reports whether only one of a set and a periodic set contains x.
func differAt(s api.Set, p api.Periodic, x int) bool {
	in, _ := viewOf(s)(x)
	inPeriodic, _ := viewOfPeriodic(p)(x)
	return in != inPeriodic
}

// mirror returns the set of all -1 - x for x in a set: what comes first in it is what comes last in the set.
func mirror(s api.Set) api.Set {
	return api.Set{Left: mirrorPeriodic(s.Right), Right: mirrorPeriodic(s.Left), From: -s.To, To: -s.From, L: mirrorList(s.L, 0)}
}

func mirrorPeriodic(p api.Periodic) api.Periodic {
	return api.Periodic{Period: p.Period, L: mirrorList(p.L, p.Period)}
}

// mirrorList returns the list of all end - 1 - x for x in a list.
func mirrorList(l []api.Span, end int) []api.Span {
	var mirrored []api.Span
	for _, s := range slices.Backward(l) {
		mirrored = append(mirrored, api.Span{From: end - s.To, To: end - s.From})
	}
	return mirrored
}
