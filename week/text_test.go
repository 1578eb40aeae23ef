package week

import (
	"fmt"
	"math"
	"strings"
	"testing"

	"civiltime/api"
)

func TestP35Text(t *testing.T) {
	for _, c := range []struct {
		d api.WeekDate
		s string
	}{
		{date(2026, 7, 3), "2026-W07-3"}, {date(26, 7, 3), "0026-W07-3"}, {date(1, 1, 1), "0001-W01-1"}, {date(9999, 54, 7), "9999-W54-7"}, {date(987, 10, 6), "0987-W10-6"}, {date(2025, 53, 1), "2025-W53-1"},
	} {
		if s := Text(c.d); s != c.s {
			t.Errorf("Text(%v) = %q", c.d, s)
		}
		if d, e := Parse(c.s); d != c.d || e != api.OK {
			t.Errorf("Parse(%q) = %v, %d", c.s, d, e)
		}
	}
	for _, d := range []api.WeekDate{
		{}, date(0, 1, 1), date(-1, 1, 1), date(10000, 1, 1), date(math.MinInt, 1, 1), date(math.MaxInt, 1, 1), date(2026, 0, 1), date(2026, -1, 1), date(2026, 55, 1), date(2026, math.MinInt, 1), date(2026, math.MaxInt, 1),
		date(2026, 1, 0), date(2026, 1, -1), date(2026, 1, 8), date(2026, 1, 10), date(2026, 1, math.MinInt), date(2026, 1, math.MaxInt),
	} {
		if s := Text(d); s != "" {
			t.Errorf("Text(%v) = %q", d, s)
		}
	}
}

func TestP35ParseErrors(t *testing.T) {
	for e, l := range map[api.Errno][]string{
		api.ErrForm: {
			"", "-", "2026", "2026-W07", "2026-W07-", "2026-W7-3", "2026-W1-1", "2026W01-1", "2026W013", "2026-w07-3", "2026-W07-03", "02026-W07-3", "+026-W01-1", "-026-W01-1", "2026--W07-3",
			" 2026-W07-3", "2026-W07-3 ", "2026-W07-3\n", "2026-W07-3\x00", "2026-W 7-3", "2026-W-7-3", "2026-W+7-3", "2026-W07--", "2026-W07/3", "2026/W07-3", "2026-007-3", "2026-02-07", "W026-W07-3", "2026-W07-W", "2026-W07-x",
			"26-W07-3", "2026-W073-", "２-W07-3", "2026–W7-3", "2026-W07-\xff", strings.Repeat("0", 10), strings.Repeat("\x00", 10), strings.Repeat("2026-W07-3", 10000),
			// Texts of a wrong form whose numbers are out of range too.
			"0000-W00-0 ", "2026-W55", "0000-W1-1", "2026-W99-99",
		},
		api.ErrRange: {"0000-W01-1", "2026-W00-1", "2026-W55-1", "2026-W99-1", "2026-W01-0", "2026-W01-8", "2026-W01-9", "0000-W00-0"},
	} {
		for _, s := range l {
			if d, got := Parse(s); d != (api.WeekDate{}) || got != e {
				t.Errorf("Parse(%q) = %v, %d; want the error %d", s, d, got, e)
			}
		}
	}
}

// TestP35EveryByte puts each byte into each place of a text.
func TestP35EveryByte(t *testing.T) {
	const s = "2222-W22-2"
	for i := range len(s) {
		for c := range 256 {
			text := []byte(s)
			text[i] = byte(c)
			right := text[i] == s[i]
			if s[i] == '2' {
				right = c >= '0' && c <= '9'
			}
			if _, e := Parse(string(text)); (e == api.ErrForm) == right {
				t.Errorf("Parse(%q): %d", text, e)
			}
		}
	}
}

func TestP37TextsAndDates(t *testing.T) {
	for year := 0; year <= 9999; year++ {
		// All weeks and weekdays of all years would take too long; these go through all of them again and again.
		weeks := []int{year % 100, (year + 37) % 100}
		if year < 3 || year > 9997 || year == 2026 {
			weeks = nil
			for week := range 100 {
				weeks = append(weeks, week)
			}
		}
		for _, week := range weeks {
			for weekday := range 10 {
				s, d, wantE := fmt.Sprintf("%04d-W%02d-%d", year, week, weekday), date(year, week, weekday), api.OK
				text := s
				if year < 1 || week < 1 || week > 54 || weekday < 1 || weekday > 7 {
					text, wantE = "", api.ErrRange
				}
				if got := Text(d); got != text {
					t.Fatalf("Text(%v) = %q", d, got)
				}
				if wantE != api.OK {
					d = api.WeekDate{}
				}
				if got, e := Parse(s); got != d || e != wantE {
					t.Fatalf("Parse(%q) = %v, %d", s, got, e)
				}
			}
		}
	}
}
