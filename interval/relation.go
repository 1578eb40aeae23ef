package interval

import (
	"cmp"

	"civiltime/api"
)

// The numbers of the relations.
const (
	before = iota
	meets
	overlaps
	starts
	during
	finishes
	equals
	finishedBy
	contains
	startedBy
	overlappedBy
	metBy
	after
	relations
)

// names are the names of the relations, at their numbers.
var names = [relations]string{"before", "meets", "overlaps", "starts", "during", "finishes", "equals", "finishedby", "contains", "startedby", "overlappedby", "metby", "after"}

// sharing are the relations of intervals with integers in common: at 1 more than the comparison of where they begin, and there at 1 more than that of where they end.
var sharing = [3][3]int{
	{overlaps, finishedBy, contains},
	{starts, equals, startedBy},
	{during, finishes, overlappedBy},
}

// Of returns the number of the relation from a to b; -1 if one of them is not valid.
func Of(a, b api.Span) int {
	if !bothValid(a, b) {
		return -1
	}
	switch cmp.Compare(a.To, b.From) {
	case -1:
		return before
	case 0:
		return meets
	}
	switch cmp.Compare(a.From, b.To) {
	case 0:
		return metBy
	case 1:
		return after
	}
	return sharing[1+cmp.Compare(a.From, b.From)][1+cmp.Compare(a.To, b.To)]
}

// Inverse returns the number of the relation from b to a, for that from a to b; -1 for a number of no relation.
func Inverse(r int) int {
	if !isRelation(r) {
		return -1
	}
	return relations - 1 - r
}

// Name returns the name of a relation, which is empty for a number of no relation.
func Name(r int) string {
	if !isRelation(r) {
		return ""
	}
	return names[r]
}

// Parse returns the number of the relation with the given name.
func Parse(s string) (int, api.Errno) {
	for r, name := range names {
		if name == s {
			return r, api.OK
		}
	}
	return 0, api.ErrForm
}

// All returns the numbers of all relations, in order.
func All() []int {
	l := make([]int, relations)
	for r := range l {
		l[r] = r
	}
	return l
}

func isRelation(r int) bool { return 0 <= r && r < relations }
