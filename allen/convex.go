package allen

// lastPlace is the greatest number of a place.
const lastPlace = 5

// places are those of both ends of the first interval among the ends of the second one, at the numbers of the relations.
var places = [relations][2]int{
	{1, 1}, {1, 2}, {1, 3}, {2, 3}, {3, 3}, {3, 4}, {2, 4}, {1, 4}, {1, 5}, {2, 5}, {3, 5}, {4, 5}, {5, 5},
}

// Convex reports whether a number is a set that is empty, or has all relations between the least and the greatest of its places.
func Convex(set int) bool {
	if !isSet(set) {
		return false
	}
	// If any bounds of the places fit, then the narrowest ones do.
	low, high := [2]int{lastPlace, lastPlace}, [2]int{1, 1}
	for r := range members(set) {
		for end, place := range places[r] {
			low[end] = min(low[end], place)
			high[end] = max(high[end], place)
		}
	}
	for r, at := range places {
		within := low[0] <= at[0] && at[0] <= high[0] && low[1] <= at[1] && at[1] <= high[1]
		if within != has(set, r) {
			return false
		}
	}
	return true
}
