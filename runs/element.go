package runs

import (
	"slices"

	"civiltime/api"
	"civiltime/interval"
)

// Has reports whether a list is canonical, and x is in its set.
func Has(a []api.Span, x int) bool {
	if !Valid(a) {
		return false
	}
	_, has := find(a, x)
	return has
}

// Measure returns the number of elements, which is 0 if the list is not canonical.
func Measure(a []api.Span) int {
	if !Valid(a) {
		return 0
	}
	return length(a)
}

// Rank returns the number of elements that are less than x, which is 0 if the list is not canonical.
func Rank(a []api.Span, x int) int {
	if !Valid(a) {
		return 0
	}
	i, has := find(a, x)
	if has {
		return length(a[:i]) + x - a[i].From
	}
	return length(a[:i])
}

// Nth returns the element with the index n, counted from 0 in ascending order.
func Nth(a []api.Span, n int) (int, api.Errno) {
	switch {
	case !Valid(a):
		return 0, api.ErrArg
	case n < 0:
		return 0, api.ErrRange
	}
	for _, s := range a {
		here := interval.Length(s)
		if n < here {
			return s.From + n, api.OK
		}
		n -= here
	}
	return 0, api.ErrRange
}

// Next returns the least element that is not less than x, and true; 0 and false if there is none, or the list is not canonical.
func Next(a []api.Span, x int) (int, bool) {
	if !Valid(a) {
		return 0, false
	}
	i, _ := find(a, x)
	if i == len(a) {
		return 0, false
	}
	return max(x, a[i].From), true
}

// find returns the index of the first span of a canonical list that ends behind x, and whether it contains x; the length of the list and false if there is none.
func find(l []api.Span, x int) (i int, has bool) {
	return slices.BinarySearchFunc(l, x, func(s api.Span, x int) int {
		switch {
		case s.To <= x:
			return -1
		case s.From > x:
			return 1
		}
		return 0
	})
}

// length returns the sum of the lengths of spans.
func length(l []api.Span) int {
	sum := 0
	for _, s := range l {
		sum += interval.Length(s)
	}
	return sum
}
