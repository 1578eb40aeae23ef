package leap

import (
	"slices"
	"strings"
	"testing"
	"time"

	"civiltime/api"
)

// lines returns the text whose lines are the dates of n days from the day 0 on.
func lines(n int) string {
	var b strings.Builder
	for i := range n {
		b.WriteString(time.Unix(int64(i*day), 0).UTC().Format("2006-01-02\n"))
	}
	return b.String()
}

// textOf is the text of a table by Go's time package.
func textOf(t api.LeapTable) string {
	s := ""
	for _, step := range t.L {
		s += time.Unix(int64(step.At), 0).UTC().AddDate(0, 0, -1).Format("2006-01-02") + "\n"
	}
	return s
}

func equal(a, b api.LeapTable) bool { return slices.Equal(a.L, b.L) }

var texts = []struct {
	s string
	l api.LeapTable
}{
	{"", table()}, {"2026-06-30\n", table(1782864000)}, {"2026-06-30\n2027-12-31\n", table(1782864000, 1830297600)}, {"1969-12-31\n", table(0)}, {"1970-01-01\n", table(day)}, {"1969-12-30\n1969-12-31\n1970-01-01\n", table(-day, 0, day)}, {"2024-02-28\n2024-02-29\n", table(1709164800, 1709251200)},
	{"0001-01-01\n", table(api.MinTime + day)}, {"9999-12-30\n", table(api.MaxTime - day)}, {"0001-01-01\n9999-12-30\n", table(api.MinTime+day, api.MaxTime-day)},
	{"1972-06-30\n1972-12-31\n1973-12-31\n1974-12-31\n1975-12-31\n1976-12-31\n1977-12-31\n1978-12-31\n1979-12-31\n1981-06-30\n1982-06-30\n1983-06-30\n1985-06-30\n1987-12-31\n1989-12-31\n1990-12-31\n1992-06-30\n1993-06-30\n1994-06-30\n1995-12-31\n1997-06-30\n1998-12-31\n2005-12-31\n2008-12-31\n2012-06-30\n2015-06-30\n2016-12-31\n", table(past()...)},
}

func TestP91Text(t *testing.T) {
	for _, c := range texts {
		if s, e := Text(c.l); s != c.s || e != api.OK {
			t.Errorf("Text(%v) = %q, %d; want %q", c.l, s, e, c.s)
		}
	}
	for _, l := range validTables() {
		if s, e := Text(l); s != textOf(l) || e != api.OK {
			t.Errorf("Text(%v) = %q, %d; want %q", l, s, e, textOf(l))
		}
	}
	for _, l := range invalidTables() {
		if s, e := Text(l); s != "" || e != api.ErrArg {
			t.Errorf("Text(%v) = %q, %d", l, s, e)
		}
	}
}

func TestP92Examples(t *testing.T) {
	for _, c := range texts {
		if l, e := Parse(c.s); !equal(l, c.l) || e != api.OK {
			t.Errorf("Parse(%q) = %v, %d; want %v", c.s, l, e, c.l)
		}
	}
}

// failures are texts of no table. Where two errors apply, the first one is that of the form, wherever it stands.
var failures = []struct {
	s string
	e api.Errno
}{
	{"2026-06-30", api.ErrForm}, {"2026-06-30\n2027-12-31", api.ErrForm}, {"\n", api.ErrForm}, {"2026-06-30\n\n", api.ErrForm}, {"\n2026-06-30\n", api.ErrForm}, {"2026-06-30\n\n2027-12-31\n", api.ErrForm}, {" ", api.ErrForm}, {"x", api.ErrForm}, {"x\n", api.ErrForm},
	{"2026-06-30\r\n", api.ErrForm}, {"2026-06-30\r", api.ErrForm}, {" 2026-06-30\n", api.ErrForm}, {"2026-06-30 \n", api.ErrForm}, {"2026-06-30\n ", api.ErrForm}, {"2026-06-30\x00", api.ErrForm}, {"2026-06-30,2027-12-31\n", api.ErrForm}, {"2026-06-302027-12-31\n", api.ErrForm}, {"2026-06-30T00:00:00\n", api.ErrForm},
	{"2026-6-30\n", api.ErrForm}, {"02026-06-30\n", api.ErrForm}, {"26-06-30\n", api.ErrForm}, {"+026-06-30\n", api.ErrForm}, {"-001-06-30\n", api.ErrForm}, {"2026/06/30\n", api.ErrForm}, {"20260630\n", api.ErrForm},
	{"2026-06-31\n", api.ErrForm}, {"2026-02-29\n", api.ErrForm}, {"2026-00-30\n", api.ErrForm}, {"2026-13-30\n", api.ErrForm}, {"2026-06-00\n", api.ErrForm}, {"0000-06-30\n", api.ErrForm}, {"2026-06-30\n2026-06-31\n", api.ErrForm},
	{"2026-06-30\n2026-06-30\n", api.ErrArg}, {"2026-06-30\n2026-06-29\n", api.ErrArg}, {"2027-01-01\n2026-12-31\n", api.ErrArg}, {"2026-06-30\n2027-12-31\n2027-06-30\n", api.ErrArg}, {"2026-06-30\n2027-12-31\n2027-12-31\n", api.ErrArg}, {"9999-12-31\n", api.ErrArg}, {"2026-06-30\n9999-12-31\n", api.ErrArg}, {"0001-01-01\n0001-01-01\n", api.ErrArg},
	{"2027-01-01\n2026-01-01\nx\n", api.ErrForm}, {"2027-01-01\n2026-01-01\n2026-02-30\n", api.ErrForm}, {"9999-12-31", api.ErrForm}, {"9999-12-31\n\n", api.ErrForm}, {"2026-06-30\n2026-06-30", api.ErrForm}, {"x\n9999-12-31\n", api.ErrForm},
}

func TestP92Errors(t *testing.T) {
	for _, c := range failures {
		if l, e := Parse(c.s); l.L != nil || e != c.e {
			t.Errorf("Parse(%q) = %v, %d; want %d", c.s, l, e, c.e)
		}
	}
}

func TestP92Lengths(t *testing.T) {
	for n := range 182 {
		want := api.OK
		if n > 100 {
			want = api.ErrArg
		}
		s := lines(n)
		l, e := Parse(s)
		if e != want || e == api.OK && !equal(l, table(row(day, n, 1)...)) || e != api.OK && l.L != nil {
			t.Errorf("Parse of %d lines: %v, %d; want %d", n, l, e, want)
		}
		if l, e := Parse(s + "x"); l.L != nil || e != api.ErrForm {
			t.Errorf("Parse of %d lines and x: %v, %d", n, l, e)
		}
	}
	for _, c := range []struct {
		s string
		e api.Errno
	}{
		{lines(181), api.ErrArg}, {lines(182), api.ErrFull}, {lines(1000), api.ErrFull}, {lines(181) + "x", api.ErrForm}, {lines(181) + "012345678", api.ErrForm}, {lines(181) + "0123456789", api.ErrFull},
		{strings.Repeat("x", 1999), api.ErrForm}, {strings.Repeat("x", 2000), api.ErrForm}, {strings.Repeat("x", 2001), api.ErrFull}, {strings.Repeat("\n", 2000), api.ErrForm}, {strings.Repeat("\n", 2001), api.ErrFull}, {strings.Repeat("2026-06-30\n", 181), api.ErrArg}, {strings.Repeat("2026-06-30\n", 182), api.ErrFull}, {strings.Repeat("9", 1<<20), api.ErrFull},
	} {
		if l, e := Parse(c.s); l.L != nil || e != c.e {
			t.Errorf("Parse of %d bytes: %v, %d; want %d", len(c.s), l, e, c.e)
		}
	}
}

// read is Parse for short texts, by Go's time package.
func read(s string) (api.LeapTable, api.Errno) {
	var ats []int
	all := strings.Split(s, "\n")
	if s != "" && all[len(all)-1] != "" {
		return api.LeapTable{}, api.ErrForm
	}
	for _, line := range all[:len(all)-1] {
		date, err := time.Parse("2006-01-02", line)
		if err != nil || date.Year() == 0 {
			return api.LeapTable{}, api.ErrForm
		}
		ats = append(ats, int(date.AddDate(0, 0, 1).Unix()))
	}
	for i, at := range ats {
		if at == api.MaxTime || i > 0 && at <= ats[i-1] {
			return api.LeapTable{}, api.ErrArg
		}
	}
	return table(ats...), api.OK
}

// TestP92EveryByte puts every byte at every place of texts, and leaves each one out.
func TestP92EveryByte(t *testing.T) {
	for _, s := range []string{"", "2026-06-30\n", "2026-11-30\n2027-02-28\n", "9999-12-30\n9999-12-31\n", "0001-01-01\n0001-01-02\n"} {
		for i := range len(s) + 1 {
			for c := range 256 {
				b := string([]byte{byte(c)})
				others := []string{s[:i] + b + s[i:]}
				if i < len(s) {
					others = append(others, s[:i]+b+s[i+1:], s[:i]+s[i+1:])
				}
				for _, other := range others {
					want, wantError := read(other)
					if l, e := Parse(other); !equal(l, want) || e != wantError {
						t.Fatalf("Parse(%q) = %v, %d; want %v, %d", other, l, e, want, wantError)
					}
				}
			}
		}
	}
}

// TestP92EveryDay has tables with one step at the end of each day, but for the last one.
func TestP92EveryDay(t *testing.T) {
	for d := api.MinDay; d < api.MaxDay-1; d++ {
		want := api.LeapTable{L: []api.LeapStep{{At: (d + 1) * day, Total: 1}}}
		s, e := Text(want)
		if e != api.OK {
			t.Fatalf("Text(%v): %d", want, e)
		}
		if l, e := Parse(s); !equal(l, want) || e != api.OK {
			t.Fatalf("Parse(%q) = %v, %d; want %v", s, l, e, want)
		}
	}
}

func TestP96Texts(t *testing.T) {
	seen := map[string]api.LeapTable{}
	for _, l := range validTables() {
		s, _ := Text(l)
		if other, ok := seen[s]; ok && !equal(other, l) {
			t.Errorf("%v and %v have the text %q", l, other, s)
		}
		seen[s] = l
		if back, e := Parse(s); !equal(back, l) || e != api.OK {
			t.Errorf("Parse(%q) = %v, %d; want %v", s, back, e, l)
		}
	}
}

// TestOwnMemory changes one result and looks at another one of the same text.
func TestOwnMemory(t *testing.T) {
	a, _ := Parse("2026-06-30\n")
	b, _ := Parse("2026-06-30\n")
	a.L[0].Total = 7
	if !equal(b, table(1782864000)) {
		t.Errorf("%v was changed with another result", b)
	}
}
