package allen

// compositions are those of any two relations, at their numbers. They were found by going through all intervals between 0 and 5, as the tests do again; uint16 holds each set of 13 relations.
var compositions = [relations][relations]uint16{
	{1, 1, 1, 1, 31, 31, 1, 1, 1, 1, 31, 31, 8191},
	{1, 1, 1, 2, 28, 28, 2, 1, 1, 2, 28, 224, 7936},
	{1, 1, 7, 4, 28, 28, 4, 7, 391, 388, 2044, 1792, 7936},
	{1, 1, 7, 8, 16, 16, 8, 7, 391, 584, 1072, 2048, 4096},
	{1, 1, 31, 16, 16, 16, 16, 31, 8191, 7216, 7216, 4096, 4096},
	{1, 2, 28, 16, 16, 32, 32, 224, 7936, 7168, 7168, 4096, 4096},
	{1, 2, 4, 8, 16, 32, 64, 128, 256, 512, 1024, 2048, 4096},
	{1, 2, 4, 4, 28, 224, 128, 128, 256, 256, 1792, 1792, 7936},
	{391, 388, 388, 388, 2044, 1792, 256, 256, 256, 256, 1792, 1792, 7936},
	{391, 388, 388, 584, 1072, 1024, 512, 256, 256, 512, 1024, 2048, 4096},
	{391, 388, 2044, 1072, 1072, 1024, 1024, 1792, 7936, 7168, 7168, 4096, 4096},
	{391, 584, 1072, 1072, 1072, 2048, 2048, 2048, 4096, 4096, 4096, 4096, 4096},
	{8191, 7216, 7216, 7216, 7216, 4096, 4096, 4096, 4096, 4096, 4096, 4096, 4096},
}

// Compose returns the set of the relations that can hold from x to z if a holds from x to y, and b from y to z; -1 if a or b is no set.
func Compose(a, b int) int {
	if !isSet(a) || !isSet(b) {
		return -1
	}
	composition := 0
	for r := range members(a) {
		for s := range members(b) {
			composition |= int(compositions[r][s])
		}
	}
	return composition
}

// Basic returns the composition of two single relations; -1 if a or b is the number of no relation.
func Basic(a, b int) int {
	if !isRelation(a) || !isRelation(b) {
		return -1
	}
	return int(compositions[a][b])
}

func isRelation(r int) bool { return 0 <= r && r < relations }
