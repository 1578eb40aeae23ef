package clock

import (
	"fmt"
	"strings"
	"testing"

	"civiltime/api"
)

func TestP44Text(t *testing.T) {
	for _, c := range []struct {
		m api.Moment
		s string
	}{
		{moment(2026, 2, 28, 23, 59, 59), "2026-02-28T23:59:59"}, {moment(1970, 1, 1, 0, 0, 0), "1970-01-01T00:00:00"}, {moment(1, 1, 1, 0, 0, 0), "0001-01-01T00:00:00"}, {moment(9999, 12, 31, 23, 59, 59), "9999-12-31T23:59:59"},
		{moment(333, 4, 5, 6, 7, 8), "0333-04-05T06:07:08"}, {moment(2024, 2, 29, 10, 20, 30), "2024-02-29T10:20:30"}, {moment(26, 11, 10, 1, 0, 59), "0026-11-10T01:00:59"},
	} {
		if s := Text(c.m); s != c.s {
			t.Errorf("Text(%v) = %q", c.m, s)
		}
		if m, e := Parse(c.s); m != c.m || e != api.OK {
			t.Errorf("Parse(%q) = %v, %d", c.s, m, e)
		}
	}
	for _, m := range invalidMoments() {
		if s := Text(m); s != "" {
			t.Errorf("Text(%v) = %q", m, s)
		}
	}
}

func TestP44ParseErrors(t *testing.T) {
	for e, l := range map[api.Errno][]string{
		api.ErrForm: {
			"", "T", "2026-02-28", "2026-02-28T", "2026-02-28T23", "2026-02-28T23:59", "2026-02-28T23:59:", "2026-02-28T23:59:5", "2026-02-28T23:59:599", "02026-02-28T23:59:59", "T23:59:59", "23:59:59",
			" 2026-02-28T23:59:59", "2026-02-28T23:59:59 ", "2026-02-28T23:59:59\n", "2026-02-28T23:59:59\x00", "2026-02-28T23:59:59Z", "2026-02-28T23:59:59.0", "2026-02-28T23:59:59+01:00",
			"2026-02-28 23:59:59", "2026-02-28t23:59:59", "2026/02/28T23:59:59", "2026-02-28T23.59.59", "2026-02-28T23-59-59", "2026:02:28T23:59:59", "20260228T235959", "2026-02-28TT3:59:59", "2026-02-28T3:59:59", "2026-2-28T23:59:59",
			"+026-02-28T23:59:59", "-026-02-28T23:59:59", "2026--2-28T23:59:59", "2026-02--8T23:59:59", "2026-02-28T-3:59:59", "2026-02-28T23:-9:59", "2026-02-28T23:59:-9", "2026-02-28T23:59:+9", "2026-02-28T23:59: 9",
			"2026-02-28T23:59:5x", "2026-02-28T23:59:5\xff", "２26-02-28T23:59:59", "2026-02-28T23：9:59", strings.Repeat("0", 19), strings.Repeat("\x00", 19), strings.Repeat("2026-02-28T23:59:59", 10000),
			// Texts of a wrong form whose numbers are no valid moment either.
			"2026-02-29T24:00:0x", "0000-00-00T99:99:99 ", "2026-13-01 00:00:00", "2026-02-29T24:0:00",
		},
		api.ErrArg: {
			"2026-02-29T00:00:00", "0000-01-01T00:00:00", "2026-00-01T00:00:00", "2026-13-01T00:00:00", "2026-01-00T00:00:00", "2026-01-32T00:00:00", "2026-04-31T23:59:59", "1900-02-29T12:00:00",
			"2026-01-01T24:00:00", "2026-01-01T25:00:00", "2026-01-01T00:60:00", "2026-01-01T00:00:60", "2016-12-31T23:59:60", "2026-01-01T99:99:99", "0000-00-00T00:00:00", "9999-99-99T99:99:99",
		},
	} {
		for _, s := range l {
			if m, got := Parse(s); m != (api.Moment{}) || got != e {
				t.Errorf("Parse(%q) = %v, %d; want the error %d", s, m, got, e)
			}
		}
	}
}

// TestP44EveryByte puts each byte into each place of a text.
func TestP44EveryByte(t *testing.T) {
	const s = "2222-12-22T22:22:22"
	for i := range len(s) {
		for c := range 256 {
			text := []byte(s)
			text[i] = byte(c)
			right := text[i] == s[i]
			if strings.IndexByte("12", s[i]) >= 0 {
				right = c >= '0' && c <= '9'
			}
			if _, e := Parse(string(text)); (e == api.ErrForm) == right {
				t.Errorf("Parse(%q): %d", text, e)
			}
		}
	}
}

// TestP44AllNumbers parses texts with all numbers at each place, valid or not.
func TestP44AllNumbers(t *testing.T) {
	for n := range 10000 {
		a, b := n/100, n%100
		for _, c := range []struct {
			m     api.Moment
			valid bool
		}{
			{moment(n, 1, 1, 0, 0, 0), n >= 1},
			{moment(2025, 2, a, b, 0, 0), a >= 1 && a <= 28 && b <= 23},
			{moment(2024, a, 29, 0, b, 0), a >= 1 && a <= 12 && b <= 59},
			{moment(2024, 2, 29, a, b, 59), a <= 23 && b <= 59},
			{moment(2024, 2, 29, 23, a, b), a <= 59 && b <= 59},
			{moment(2024, 12, 31, a, 59, b), a <= 23 && b <= 59},
		} {
			x := c.m
			s := fmt.Sprintf("%04d-%02d-%02dT%02d:%02d:%02d", x.Date.Year, x.Date.Month, x.Date.Day, x.Time.Hour, x.Time.Minute, x.Time.Second)
			text, wantE := s, api.OK
			if !c.valid {
				x, text, wantE = api.Moment{}, "", api.ErrArg
			}
			if m, e := Parse(s); m != x || e != wantE {
				t.Fatalf("Parse(%q) = %v, %d", s, m, e)
			}
			if got := Text(c.m); got != text {
				t.Fatalf("Text(%v) = %q", c.m, got)
			}
		}
	}
}

// TestP47TextsInOrder goes through instants with all seconds of a day, and compares their texts and moments with those before them.
func TestP47TextsInOrder(t *testing.T) {
	steps := []int{1, 59, 3600, 86399, 10000019}
	before, at := "", api.MinTime
	for i := 0; at < api.MaxTime; i++ {
		m, e := Moment(at)
		s := Text(m)
		if e != api.OK || s <= before || len(s) != 19 {
			t.Fatalf("the text of %d is %q, after %q", at, s, before)
		}
		x, e := Parse(s)
		if n, f := Of(x); x != m || n != at || e != api.OK || f != api.OK {
			t.Fatalf("Parse(%q) = %v, %d; its instant is %d, %d", s, x, e, n, f)
		}
		before = s
		at += steps[i%len(steps)]
	}
}
