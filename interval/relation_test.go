package interval

import (
	"slices"
	"strings"
	"testing"

	"civiltime/api"
)

// conditions are those of the relations, at their numbers, as the chapter writes them.
var conditions = []func(a, b api.Span) bool{
	func(a, b api.Span) bool { return a.To < b.From },
	func(a, b api.Span) bool { return a.To == b.From },
	func(a, b api.Span) bool { return a.From < b.From && b.From < a.To && a.To < b.To },
	func(a, b api.Span) bool { return a.From == b.From && a.To < b.To },
	func(a, b api.Span) bool { return b.From < a.From && a.To < b.To },
	func(a, b api.Span) bool { return b.From < a.From && a.To == b.To },
	func(a, b api.Span) bool { return a.From == b.From && a.To == b.To },
	func(a, b api.Span) bool { return a.From < b.From && a.To == b.To },
	func(a, b api.Span) bool { return a.From < b.From && b.To < a.To },
	func(a, b api.Span) bool { return a.From == b.From && b.To < a.To },
	func(a, b api.Span) bool { return b.From < a.From && a.From < b.To && b.To < a.To },
	func(a, b api.Span) bool { return a.From == b.To },
	func(a, b api.Span) bool { return b.To < a.From },
}

// wantNames are the names of the chapter.
var wantNames = strings.Fields("before meets overlaps starts during finishes equals finishedby contains startedby overlappedby metby after")

func TestP102Examples(t *testing.T) {
	for _, c := range []struct {
		a, b api.Span
		r    int
	}{
		{span(0, 4), span(2, 6), 2}, {span(0, 4), span(4, 5), 1}, {span(0, 4), span(0, 4), 6}, {span(0, 4), span(1, 4), 7},
		{span(0, 4), span(5, 6), 0}, {span(0, 4), span(0, 5), 3}, {span(0, 4), span(-1, 5), 4}, {span(0, 4), span(-1, 4), 5}, {span(0, 4), span(1, 3), 8}, {span(0, 4), span(0, 3), 9}, {span(0, 4), span(-1, 1), 10}, {span(0, 4), span(-1, 0), 11}, {span(0, 4), span(-2, -1), 12},
		{span(-line, -line+1), span(line-1, line), 0}, {span(line-1, line), span(-line, -line+1), 12}, {span(-line, line), span(-line, line), 6}, {span(-line, line), span(-line, line-1), 9}, {span(-line+1, line), span(-line, line), 5}, {span(-line, 0), span(0, line), 1}, {span(-line, 1), span(0, line), 2}, {span(0, 1), span(1, 2), 1}, {span(0, 1), span(2, 3), 0},
	} {
		if r := Of(c.a, c.b); r != c.r {
			t.Errorf("Of(%v, %v) = %d; want %d", c.a, c.b, r, c.r)
		}
	}
}

// TestP102ByDefinition tests all conditions, of which exactly one holds (P10.6).
func TestP102ByDefinition(t *testing.T) {
	seen := make([]int, 13)
	pairs(func(a, b api.Span) {
		holds := 0
		for r, condition := range conditions {
			if condition(a, b) {
				holds++
				seen[r]++
				if got := Of(a, b); got != r {
					t.Errorf("Of(%v, %v) = %d; want %d", a, b, got, r)
				}
			}
		}
		if holds != 1 {
			t.Errorf("%d relations from %v to %v", holds, a, b)
		}
	})
	if slices.Contains(seen, 0) {
		t.Errorf("how often each relation holds: %v", seen)
	}
}

func TestP102Invalid(t *testing.T) {
	for _, a := range invalid {
		for _, b := range append([]api.Span{span(0, 1), span(-3, 6), span(5, 9), span(-line, line)}, invalid...) {
			if r := Of(a, b); r != -1 {
				t.Errorf("Of(%v, %v) = %d", a, b, r)
			}
			if r := Of(b, a); r != -1 {
				t.Errorf("Of(%v, %v) = %d", b, a, r)
			}
		}
	}
}

func TestP102Inverse(t *testing.T) {
	for r := range 13 {
		if n := Inverse(r); n != 12-r {
			t.Errorf("Inverse(%d) = %d", r, n)
		}
	}
	for _, r := range strange {
		if (r < 0 || r > 12) && Inverse(r) != -1 {
			t.Errorf("Inverse(%d) = %d", r, Inverse(r))
		}
	}
}

// TestP102All changes the list, which changes no later one.
func TestP102All(t *testing.T) {
	want := []int{0, 1, 2, 3, 4, 5, 6, 7, 8, 9, 10, 11, 12}
	for range 2 {
		l := All()
		if !slices.Equal(l, want) {
			t.Fatalf("All() = %v", l)
		}
		for i := range l {
			l[i] = -7
		}
	}
}

func TestP105Name(t *testing.T) {
	for r, name := range wantNames {
		if Name(r) != name {
			t.Errorf("Name(%d) = %q; want %q", r, Name(r), name)
		}
		if n, e := Parse(name); n != r || e != api.OK {
			t.Errorf("Parse(%q) = %d, %d; want %d", name, n, e, r)
		}
	}
	for _, r := range strange {
		if (r < 0 || r > 12) && Name(r) != "" {
			t.Errorf("Name(%d) = %q", r, Name(r))
		}
	}
}

func TestP105OtherTexts(t *testing.T) {
	others := []string{"", " ", "x", "0", "6", "12", "-1", "equal", "meet", "overlap", "start", "finish", "contain", "inverse", "finished-by", "finished by", "met_by", "before after", "before,meets", "beforemeets", "by", "\x00", "\xff", "\u00e9quals", strings.Repeat("before", 1000), strings.Repeat("x", 1<<16)}
	for _, name := range wantNames {
		others = append(others, strings.ToUpper(name), strings.ToUpper(name[:1])+name[1:], " "+name, name+" ", name+"\n", name+"\x00", name+"s", name+"by", "x"+name, name[1:], name[:len(name)-1])
		for i := range name {
			for c := range 256 {
				b := []byte(name)
				b[i] = byte(c)
				others = append(others, string(b))
			}
		}
	}
	for _, s := range others {
		if slices.Contains(wantNames, s) {
			continue
		}
		if r, e := Parse(s); r != 0 || e != api.ErrForm {
			t.Errorf("Parse(%.40q) = %d, %d", s, r, e)
		}
	}
}

func TestP106Inverse(t *testing.T) {
	pairs(func(a, b api.Span) {
		if Of(b, a) != Inverse(Of(a, b)) || Inverse(Inverse(Of(a, b))) != Of(a, b) {
			t.Errorf("Of(%v, %v) = %d; the other way %d", a, b, Of(a, b), Of(b, a))
		}
	})
}

// TestP106Common compares relations with what intervals have in common, and what they have not.
func TestP106Common(t *testing.T) {
	pairs(func(a, b api.Span) {
		r := Of(a, b)
		if _, ok := Meet(a, b); ok != (r >= 2 && r <= 10) {
			t.Errorf("Meet(%v, %v) = %t with the relation %d", a, b, ok, r)
		}
		inside := r >= 3 && r <= 6
		if parts := len(Minus(a, b)); (parts == 0) != inside || (parts == 2) != (r == 8) {
			t.Errorf("Minus(%v, %v) has %d parts with the relation %d", a, b, parts, r)
		}
	})
}

func TestP106Moved(t *testing.T) {
	for _, n := range []int{-line + 3, -1 << 33, -1000003, -7, -1, 0, 1, 2, 86400, 1 << 33, line - 6} {
		for _, a := range small() {
			for _, b := range small() {
				movedA, e := Move(a, n)
				movedB, f := Move(b, n)
				if e != api.OK || f != api.OK || Of(movedA, movedB) != Of(a, b) {
					t.Errorf("Of(%v, %v) = %d; moved by %d %d", a, b, Of(a, b), n, Of(movedA, movedB))
				}
			}
		}
	}
}
