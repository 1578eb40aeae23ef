package civil

import (
	"strings"
	"testing"

	"civiltime/api"
)

func TestP26Text(t *testing.T) {
	for _, c := range []struct {
		d api.Date
		s string
	}{
		{date(2026, 2, 28), "2026-02-28"}, {date(7, 8, 9), "0007-08-09"}, {date(1, 1, 1), "0001-01-01"}, {date(9999, 12, 31), "9999-12-31"}, {date(1970, 10, 1), "1970-10-01"}, {date(333, 11, 30), "0333-11-30"},
	} {
		if s := Text(c.d); s != c.s {
			t.Errorf("Text(%v) = %q", c.d, s)
		}
		if d, e := Parse(c.s); d != c.d || e != api.OK {
			t.Errorf("Parse(%q) = %v, %d", c.s, d, e)
		}
	}
	for _, d := range invalid {
		if s := Text(d); s != "" {
			t.Errorf("Text(%v) = %q", d, s)
		}
	}
}

func TestP26ParseErrors(t *testing.T) {
	for _, s := range []string{
		"", "-", "2024", "2024-02", "2024-02-", "2024-02-2", "2024-2-29", "2024-02-290", "02024-02-29", " 2024-02-29", "2024-02-29 ", "2024-02-29\n", "2024-02-29T00:00:00",
		"20240229", "2024022900", "2024/02/29", "2024-02/29", "24-02-0029", "2024-002-9", "29-02-2024", "-024-02-29", "+024-02-29", "2024--2-29", "2024-02--9", "2024-+2-29", "2024- 2-29", "2024-02-2x", "２０２4-02", "2024–02-29",
		// Texts of a wrong form whose numbers are no valid date either.
		"2023-2-29", "0000-13-32 ", "2024-13", "0000-00-0", strings.Repeat("0", 100000), "2024-02-29\x00", "2024-02-2\x00", "\xff024-02-29",
	} {
		if d, e := Parse(s); d != (api.Date{}) || e != api.ErrForm {
			t.Errorf("Parse(%q) = %v, %d", s, d, e)
		}
	}
	for _, s := range []string{
		"2023-02-29", "1900-02-29", "2024-02-30", "0000-01-01", "0000-00-00", "0000-02-29", "2024-00-01", "2024-13-01", "2024-01-00", "2024-01-32", "2024-04-31", "9999-99-99", "9999-12-32",
	} {
		if d, e := Parse(s); d != (api.Date{}) || e != api.ErrArg {
			t.Errorf("Parse(%q) = %v, %d", s, d, e)
		}
	}
}

// TestP26EveryByte puts each byte into each place of a text.
func TestP26EveryByte(t *testing.T) {
	const s = "2222-12-22"
	for i := range len(s) {
		for c := range 256 {
			text := []byte(s)
			text[i] = byte(c)
			right := c == '-'
			if s[i] != '-' {
				right = c >= '0' && c <= '9'
			}
			if _, e := Parse(string(text)); (e == api.ErrForm) == right {
				t.Errorf("Parse(%q): %d", text, e)
			}
		}
	}
}

// TestP26AllNumbers parses texts with all months and days, valid or not.
func TestP26AllNumbers(t *testing.T) {
	two := func(n int) string { return string([]byte{byte('0' + n/10), byte('0' + n%10)}) }
	for _, year := range []int{0, 1, 1900, 2000, 2023, 2024, 9999} {
		for month := range 100 {
			for day := range 100 {
				s := two(year/100) + two(year%100) + "-" + two(month) + "-" + two(day)
				want, wantE := date(year, month, day), api.OK
				if day < 1 || day > lengthOf(year, month) {
					want, wantE = api.Date{}, api.ErrArg
				}
				if d, e := Parse(s); d != want || e != wantE {
					t.Errorf("Parse(%q) = %v, %d", s, d, e)
				}
			}
		}
	}
}

func TestP27TextsInOrder(t *testing.T) {
	before := ""
	for _, d := range days() {
		s := Text(d)
		if s <= before || len(s) != 10 {
			t.Fatalf("Text(%v) = %q, after %q", d, s, before)
		}
		if x, e := Parse(s); x != d || e != api.OK {
			t.Fatalf("Parse(%q) = %v, %d", s, x, e)
		}
		before = s
	}
}
