package allen

import (
	"slices"
	"strings"
	"testing"

	"civiltime/api"
)

// wantNames are those of the relations (10), at their numbers.
var wantNames = strings.Fields("before meets overlaps starts during finishes equals finishedby contains startedby overlappedby metby after")

// joined returns the names of some relations, in their order here.
func joined(relations ...int) string {
	s := ""
	for i, r := range relations {
		if i > 0 {
			s += "|"
		}
		s += wantNames[r]
	}
	return s
}

func TestP113Text(t *testing.T) {
	for _, c := range []struct {
		set  int
		text string
	}{
		{0, "none"}, {8191, "any"}, {1, "before"}, {4097, "before|after"}, {setOf(4), "during"}, {setOf(10, 2, 7), "overlaps|finishedby|overlappedby"}, {8190, "meets|overlaps|starts|during|finishes|equals|finishedby|contains|startedby|overlappedby|metby|after"},
	} {
		if s := Text(c.set); s != c.text {
			t.Errorf("Text(%d) = %q; want %q", c.set, s, c.text)
		}
	}
	for _, set := range noSets {
		if s := Text(set); s != "" {
			t.Errorf("Text(%d) = %q", set, s)
		}
	}
}

// TestP113AllSets reads the text of each set, and its names in other orders.
func TestP113AllSets(t *testing.T) {
	for set := range 8192 {
		l := listOf(set)
		if set != 0 && set != 8191 && Text(set) != joined(l...) {
			t.Errorf("Text(%d) = %q; want %q", set, Text(set), joined(l...))
		}
		texts := []string{Text(set)}
		if set != 0 {
			texts = append(texts, joined(l...), joined(append(l[len(l)/2:], l[:len(l)/2]...)...))
			slices.Reverse(l)
			texts = append(texts, joined(l...))
		}
		for _, s := range texts {
			if n, e := Parse(s); n != set || e != api.OK {
				t.Errorf("Parse(%q) = %d, %d; want %d", s, n, e, set)
			}
		}
	}
}

// TestP113Orders has each order of four relations.
func TestP113Orders(t *testing.T) {
	l := []int{0, 5, 6, 12}
	for _, a := range l {
		for _, b := range l {
			for _, c := range l {
				for _, d := range l {
					want, e := setOf(l...), api.OK
					if len(slices.Compact(slices.Sorted(slices.Values([]int{a, b, c, d})))) < 4 {
						want, e = 0, api.ErrTwice
					}
					if n, got := Parse(joined(a, b, c, d)); n != want || got != e {
						t.Errorf("Parse(%q) = %d, %d; want %d, %d", joined(a, b, c, d), n, got, want, e)
					}
				}
			}
		}
	}
}

func TestP113Twice(t *testing.T) {
	for r, name := range wantNames {
		for s, other := range wantNames {
			for _, text := range []string{name + "|" + name, name + "|" + other + "|" + name, other + "|" + name + "|" + name, joined(0, 1, 2, 3, 4, 5, 6, 7, 8, 9, 10, 11, 12) + "|" + name} {
				if n, e := Parse(text); n != 0 || e != api.ErrTwice {
					t.Errorf("Parse(%q) = %d, %d", text, n, e)
				}
			}
			if n, e := Parse(name + "|" + other); r != s && (n != setOf(r, s) || e != api.OK) {
				t.Errorf("Parse(%q) = %d, %d", name+"|"+other, n, e)
			}
		}
	}
}

func TestP113OtherTexts(t *testing.T) {
	others := []string{
		"", " ", "|", "||", "|before", "before|", "before||after", "before |after", "before| after", "before,after", "before after", "before/after", "before\x00", "before|\x00", "x", "0", "1", "8191", "-1", "None", "NONE", "Any", "ANY", " any", "any ", " none", "none ", "any\n", "all", "empty", "\xff", "\u00e9quals", "before\u2502after", "before\uff5cafter",
		"any|before", "before|any", "none|before", "before|none", "any|any", "none|none", "any|none", "none|any", "any|", "|any", "none|", "|none",
		"before|before|x", "x|before|before", "before|x|before", "before|before|", "|before|before", "before||before", "before|before|any", "none|before|before",
	}
	for _, name := range wantNames {
		others = append(others, strings.ToUpper(name), strings.ToUpper(name[:1])+name[1:], " "+name, name+" ", name+"\n", name+"|"+name+"|"+name[1:], name[:len(name)-1]+"|"+name, name+name)
	}
	for _, s := range others {
		if n, e := Parse(s); n != 0 || e != api.ErrForm {
			t.Errorf("Parse(%q) = %d, %d", s, n, e)
		}
	}
}

// TestP113EveryByte puts every byte at every place of some texts.
func TestP113EveryByte(t *testing.T) {
	for _, text := range []string{"none", "any", "before|after", "metby|meets|equals"} {
		want, _ := Parse(text)
		for i := range text {
			for c := range 256 {
				b := []byte(text)
				b[i] = byte(c)
				if s := string(b); s != text {
					if n, e := Parse(s); n != 0 || e != api.ErrForm {
						t.Errorf("Parse(%q) = %d, %d", s, n, e)
					}
				} else if n, e := Parse(s); n != want || e != api.OK {
					t.Errorf("Parse(%q) = %d, %d; want %d", s, n, e, want)
				}
			}
		}
	}
}

// TestP113Length has texts of 200 and more bytes, whose other errors come after ErrFull.
func TestP113Length(t *testing.T) {
	for _, c := range []struct {
		s string
		n int
		e api.Errno
	}{
		{strings.Repeat("before|", 27) + "meets|meets", 200, api.ErrTwice}, {strings.Repeat("before|", 28) + "meets", 201, api.ErrFull}, {strings.Repeat("before|", 28) + "metb", 200, api.ErrForm},
		{strings.Repeat("x", 200), 200, api.ErrForm}, {strings.Repeat("x", 201), 201, api.ErrFull}, {strings.Repeat("|", 200), 200, api.ErrForm}, {strings.Repeat("|", 201), 201, api.ErrFull}, {strings.Repeat("\u00e9", 100), 200, api.ErrForm}, {strings.Repeat("\u00e9", 101), 202, api.ErrFull}, {"any" + strings.Repeat(" ", 198), 201, api.ErrFull}, {strings.Repeat("before|", 30000), 210000, api.ErrFull},
	} {
		if n, e := Parse(c.s); len(c.s) != c.n || n != 0 || e != c.e {
			t.Errorf("Parse(%.40q) of %d bytes = %d, %d; want %d bytes, %d", c.s, len(c.s), n, e, c.n, c.e)
		}
	}
}
