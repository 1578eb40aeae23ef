package integer

import (
	"math"
	"strings"
	"testing"

	"civiltime/api"
)

func TestP15Text(t *testing.T) {
	for _, c := range []struct {
		n, digits int
		s         string
	}{
		{7, 3, "007"}, {-7, 3, "-007"}, {7, 1, "7"}, {7, 0, "7"}, {1234, 2, "1234"}, {1234, 4, "1234"}, {-1234, 4, "-1234"},
		{0, 0, "0"}, {0, 1, "0"}, {0, 4, "0000"}, {10, 3, "010"}, {-1, 0, "-1"},
		{math.MaxInt, 0, "9223372036854775807"}, {math.MinInt, 0, "-9223372036854775808"},
		{math.MaxInt, 20, "09223372036854775807"}, {math.MinInt, 20, "-09223372036854775808"}, {math.MinInt, 19, "-9223372036854775808"},
		{5, 20, "00000000000000000005"}, {5, 21, ""}, {5, -1, ""}, {5, math.MaxInt, ""}, {5, math.MinInt, ""}, {math.MinInt, 21, ""},
	} {
		if s := Text(c.n, c.digits); s != c.s {
			t.Errorf("Text(%d, %d) = %q", c.n, c.digits, s)
		}
	}
}

func TestP16Parse(t *testing.T) {
	for _, c := range []struct {
		s string
		n int
	}{
		{"0", 0}, {"-0", 0}, {"000", 0}, {"-000", 0}, {"7", 7}, {"007", 7}, {"-007", -7}, {"0123456789", 123456789}, {"-86400", -86400},
		{"9223372036854775807", math.MaxInt}, {"-9223372036854775808", math.MinInt}, {"-9223372036854775807", -math.MaxInt},
		{"000000000009223372036854775807", math.MaxInt}, {"-00000000009223372036854775808", math.MinInt},
		{strings.Repeat("0", 29) + "1", 1}, {"-" + strings.Repeat("0", 28) + "1", -1}, {strings.Repeat("0", 30), 0},
	} {
		if n, e := Parse(c.s); n != c.n || e != api.OK {
			t.Errorf("Parse(%q) = %d, %d", c.s, n, e)
		}
	}
}

func TestP16ParseErrors(t *testing.T) {
	for e, l := range map[api.Errno][]string{
		api.ErrFull: {strings.Repeat("0", 31), "-" + strings.Repeat("0", 30), strings.Repeat("x", 31), strings.Repeat("9", 31), strings.Repeat("1", 1000)},
		api.ErrForm: {
			"", "-", "--1", "+1", "-+1", "1-", "1x", "x1", " 1", "1 ", "- 1", "1.0", "1,0", "1e3", "0x1", "1_000", "/", ":", "1/", "1:", "\x00", "1\n", "٣", "１", "−1", "\xff",
			strings.Repeat("9", 29) + "x", "-" + strings.Repeat("9", 28) + "-", strings.Repeat("x", 30),
		},
		api.ErrBig: {
			"9223372036854775808", "-9223372036854775809", "18446744073709551616", "-18446744073709551616", "18446744073709551617",
			"0009223372036854775808", strings.Repeat("9", 30), "-" + strings.Repeat("9", 29),
		},
	} {
		for _, s := range l {
			if n, got := Parse(s); n != 0 || got != e {
				t.Errorf("Parse(%q) = %d, %d; want the error %d", s, n, got, e)
			}
		}
	}
}

func TestP17DividendIsDetermined(t *testing.T) {
	for _, a := range edges {
		for _, b := range edges {
			q, r, e := Div(a, b)
			if e != api.OK {
				continue
			}
			// The wraparound of the product and of the sum cancel, so that the equation holds for all ints.
			if q*b+r != a {
				t.Errorf("%d * %d + %d is not %d", q, b, r, a)
			}
		}
	}
}

func TestP17SolutionsRepeat(t *testing.T) {
	for m := 1; m <= 9; m++ {
		for n := 1; n <= 9; n++ {
			for a := range m {
				for b := range n {
					x, l, ok := Meet(a, m, b, n)
					for y := -200; y <= 200; y++ {
						solves := Mod(y-a, m) == 0 && Mod(y-b, n) == 0
						if repeats := ok && Mod(y-x, l) == 0; solves != repeats {
							t.Fatalf("Meet(%d, %d, %d, %d) = %d, %d, %t, but %d", a, m, b, n, x, l, ok, y)
						}
					}
				}
			}
		}
	}
}

func TestP17TextsAreParsed(t *testing.T) {
	for _, n := range edges {
		for digits := range 21 {
			s := Text(n, digits)
			if got, e := Parse(s); got != n || e != api.OK {
				t.Errorf("Parse(Text(%d, %d)) = %d, %d", n, digits, got, e)
			}
			if length := len(strings.TrimPrefix(s, "-")); length < digits {
				t.Errorf("Text(%d, %d) = %q", n, digits, s)
			}
		}
	}
}
