package integer

import (
	"strconv"
	"strings"

	"civiltime/api"
)

// maxDigits is the greatest number of digits to which Text fills a number up.
const maxDigits = 20

// Text returns the decimal text of n with at least the given number of digits.
func Text(n, digits int) string {
	if digits < 0 || digits > maxDigits {
		return ""
	}
	s := strconv.FormatUint(magnitude(n), 10)
	s = strings.Repeat("0", max(0, digits-len(s))) + s
	if n < 0 {
		return "-" + s
	}
	return s
}

// Parse returns the integer of a decimal text.
func Parse(s string) (int, api.Errno) {
	switch {
	case len(s) > api.MaxName:
		return 0, api.ErrFull
	case !isDecimal(s):
		return 0, api.ErrForm
	}
	n, err := strconv.Atoi(s)
	// The form is right, so that only the size can be wrong.
	if err != nil {
		return 0, api.ErrBig
	}
	return n, api.OK
}

// isDecimal reports whether s is an optional minus sign and one or more digits.
func isDecimal(s string) bool {
	digits := strings.TrimPrefix(s, "-")
	for i := range len(digits) {
		if digits[i] < '0' || digits[i] > '9' {
			return false
		}
	}
	return digits != ""
}
