package clock

import (
	"math"
	"math/big"
	"regexp"
	"strings"
	"testing"

	"civiltime/api"
)

func TestP45Duration(t *testing.T) {
	for _, c := range []struct {
		n int
		s string
	}{
		{0, "PT0S"}, {1, "PT1S"}, {59, "PT59S"}, {60, "PT1M"}, {61, "PT1M1S"}, {3599, "PT59M59S"}, {3600, "PT1H"}, {3601, "PT1H1S"}, {3660, "PT1H1M"}, {5400, "PT1H30M"}, {36000, "PT10H"}, {86399, "PT23H59M59S"},
		{86400, "P1D"}, {86401, "P1DT1S"}, {86460, "P1DT1M"}, {90000, "P1DT1H"}, {90061, "P1DT1H1M1S"}, {172805, "P2DT5S"}, {864000, "P10D"}, {31536000, "P365D"},
		{-1, "-PT1S"}, {-60, "-PT1M"}, {-5400, "-PT1H30M"}, {-86400, "-P1D"}, {-90061, "-P1DT1H1M1S"},
		{api.MaxLine, "P50903316DT2H25M4S"}, {-api.MaxLine, "-P50903316DT2H25M4S"}, {api.MaxLine - 1, "P50903316DT2H25M3S"},
	} {
		if s := Duration(c.n); s != c.s {
			t.Errorf("Duration(%d) = %q", c.n, s)
		}
		if n, e := ParseDuration(c.s); n != c.n || e != api.OK {
			t.Errorf("ParseDuration(%q) = %d, %d", c.s, n, e)
		}
	}
	for _, n := range []int{api.MaxLine + 1, -api.MaxLine - 1, 2 * api.MaxLine, -2 * api.MaxLine, math.MinInt, math.MinInt + 1, math.MaxInt} {
		if s := Duration(n); s != "" {
			t.Errorf("Duration(%d) = %q", n, s)
		}
	}
}

func TestP45ParseDuration(t *testing.T) {
	for _, c := range []struct {
		s string
		n int
	}{
		{"PT90M", 5400}, {"PT24H", 86400}, {"PT100S", 100}, {"PT3600S", 3600}, {"PT1H60M60S", 7260}, {"PT1H5S", 3605}, {"PT1M5S", 65}, {"P1DT24H", 172800}, {"P1DT5M", 86700},
		{"P0D", 0}, {"-P0D", 0}, {"PT0H", 0}, {"PT0M", 0}, {"-PT0S", 0}, {"P0DT0H0M0S", 0}, {"P0DT5S", 5}, {"P5DT0S", 432000}, {"PT000S", 0},
		{"P01DT00036H", 216000}, {"P007D", 604800}, {"-PT0001M", -60}, {"PT" + strings.Repeat("0", 1000) + "7S", 7}, {"P" + strings.Repeat("0", 100) + "1DT" + strings.Repeat("0", 100) + "1H", 90000},
		{"PT4398046511104S", api.MaxLine}, {"-PT4398046511104S", -api.MaxLine}, {"PT73300775185M4S", api.MaxLine}, {"PT1221679586H25M4S", api.MaxLine}, {"P50903316DT8704S", api.MaxLine}, {"-P50903316DT2H25M4S", -api.MaxLine},
	} {
		if n, e := ParseDuration(c.s); n != c.n || e != api.OK {
			t.Errorf("ParseDuration(%q) = %d, %d", c.s, n, e)
		}
	}
}

func TestP45ParseDurationErrors(t *testing.T) {
	nines := strings.Repeat("9", 1000)
	for e, l := range map[api.Errno][]string{
		api.ErrForm: {
			"", "-", "P", "-P", "PT", "-PT", "T", "0", "D", "S", "1", "1D", "T1S", "1S", "P1", "PT1", "P1DT", "P1DT1", "PD", "PTS", "PTH", "PTHMS", "PDT1S", "P1DTS", "P1H", "P1M", "P1S", "PT1D", "P1DT1D", "P1D1D", "P1D1H", "P1D1S", "PT1H1H", "PT1M1M", "PT1S1S",
			"PT1S1M", "PT1M1H", "PT1S1H", "PT1H1S1M", "PT1SP1D", "PT1S1D", "PTT1S", "P1DTT1S", "PT1HT1S", "PT1ST", "PT1H1", "PT1HM", "PT11", "P1DD", "PP1D", "P1W", "P1Y", "P1M1D", "P1Y1D",
			"+P1D", "--P1D", "P-1D", "P+1D", "PT-1S", "PT1H-1S", "-P-1D", "P1-D", "p1d", "P1d", "PT1s", "pT1S", "Pt1S", " P1D", "P1D ", "P 1D", "P1 D", "P1D T1S", "P1D\n", "P1D\x00", "\x00P1D", "PT1.5S", "PT1,5S", "PT.S", "P1DT1S-", "P1D-",
			"P１D", "P1Ｄ", "−P1D", "P1D\xff", "P/D", "P:D", "P1_0D", "P0x1D", "1P1D", "-1P1D", "PT0", "P0", strings.Repeat("P", 1000), strings.Repeat("-", 1000), "P" + strings.Repeat("1D", 1000),
			// Texts of a wrong form whose numbers are too big too.
			"P" + nines, "P" + nines + "H", "PT" + nines + "D", "P" + nines + "DT", "PT" + nines + "S1M", "+P" + nines + "D", "P" + nines + "Dx", "P" + nines + "D1", "P" + nines + "DTS",
		},
		api.ErrBig: {
			"PT4398046511105S", "-PT4398046511105S", "P50903317D", "-P50903317D", "P50903317DT1H", "-P50903317DT1H", "P50903316DT2H25M5S", "PT1221679586H25M5S", "PT73300775185M5S", "PT1221679587H", "PT73300775186M",
			"PT9223372036854775807S", "PT9223372036854775808S", "PT18446744073709551616S", "PT18446744073709551617S", "P213503982334601D", "P213503982334602D", "PT5124095576030431H", "PT5124095576030432H",
			"P99999999999999999999999D", "PT" + nines + "S", "-PT" + nines + "S", "P" + nines + "D", "P" + nines + "DT" + nines + "H" + nines + "M" + nines + "S", "P0DT0H0M" + nines + "S", "P" + nines + "DT0S", "PT4398046511104H", "P4398046511104D", "PT1H4398046511104S", "P1DT4398046511104S",
		},
	} {
		for _, s := range l {
			if n, got := ParseDuration(s); n != 0 || got != e {
				t.Errorf("ParseDuration(%q) = %d, %d; want the error %d", s, n, got, e)
			}
		}
	}
}

var general = regexp.MustCompile(`\A(-?)P(?:([0-9]+)D)?(T(?:([0-9]+)H)?(?:([0-9]+)M)?(?:([0-9]+)S)?)?\z`)

// valueOf is the value of a duration by the definition of the chapter, with numbers of any size.
func valueOf(s string) (int, api.Errno) {
	f := general.FindStringSubmatch(s)
	if f == nil || f[3] == "T" || f[2] == "" && f[3] == "" {
		return 0, api.ErrForm
	}
	sum := new(big.Int)
	for i, unit := range map[int]int64{2: 86400, 4: 3600, 5: 60, 6: 1} {
		if n, ok := new(big.Int).SetString(f[i], 10); ok {
			sum.Add(sum, n.Mul(n, big.NewInt(unit)))
		}
	}
	if sum.Cmp(big.NewInt(api.MaxLine)) > 0 {
		return 0, api.ErrBig
	}
	if f[1] == "-" {
		sum.Neg(sum)
	}
	return int(sum.Int64()), api.OK
}

func checkValue(t *testing.T, s string) {
	t.Helper()
	want, wantE := valueOf(s)
	if n, e := ParseDuration(s); n != want || e != wantE {
		t.Fatalf("ParseDuration(%q) = %d, %d; want %d, %d", s, n, e, want, wantE)
	}
}

// TestP45AllShortTexts tries all texts of a few pieces.
func TestP45AllShortTexts(t *testing.T) {
	pieces := []string{"-", "P", "T", "D", "H", "M", "S", "0", "12", " "}
	var extend func(s string, n int)
	extend = func(s string, n int) {
		checkValue(t, s)
		if n == 0 {
			return
		}
		for _, p := range pieces {
			extend(s+p, n-1)
		}
	}
	extend("", 4)
	extend("P", 5)
	extend("P3DT", 4)
	extend("-PT4H", 4)
	extend("PT4H5M", 4)
}

// TestP45EveryByte puts each byte into each place of a text, and in between.
func TestP45EveryByte(t *testing.T) {
	const s = "-P12DT34H56M78S"
	for i := range len(s) + 1 {
		for c := range 256 {
			checkValue(t, s[:i]+string([]byte{byte(c)})+s[i:])
			if i < len(s) {
				checkValue(t, s[:i]+string([]byte{byte(c)})+s[i+1:])
				checkValue(t, s[:i]+s[i+1:])
			}
		}
	}
}

// TestP45Sizes combines numbers around the bounds.
func TestP45Sizes(t *testing.T) {
	numbers := []string{
		"", "0", "1", "60", "8704", "50903316", "50903317", "1221679586", "1221679587", "73300775185", "73300775186", "4398046511103", "4398046511104", "4398046511105", "0004398046511104", "9223372036854775807", "9223372036854775808", "18446744073709551616",
		"106751991167300", "106751991167301", "213503982334601", "213503982334602", "2562047788015215", "2562047788015216", "153722867280912930", "153722867280912931", "100000000000000000000000000000000000000000",
	}
	letter := func(n, letter string) string {
		if n == "" {
			return ""
		}
		return n + letter
	}
	for _, d := range numbers {
		for _, h := range numbers {
			for _, m := range numbers {
				for _, s := range []string{"", "4", "5", "4398046511104", "4398046511105", "9223372036854775807", "9223372036854775808"} {
					text := "P" + letter(d, "D")
					if times := letter(h, "H") + letter(m, "M") + letter(s, "S"); times != "" {
						text += "T" + times
					}
					checkValue(t, text)
					checkValue(t, "-"+text)
				}
			}
		}
	}
}

// canonical is the form of the text of a duration by the chapter.
var canonical = regexp.MustCompile(`\A(PT0S|-?P([1-9][0-9]*D)?(T([1-9][0-9]?H)?([1-9][0-9]?M)?([1-9][0-9]?S)?)?)\z`)

func TestP47DurationsAreParsed(t *testing.T) {
	seen := map[string]int{}
	check := func(n int) {
		s := Duration(n)
		if !canonical.MatchString(s) || strings.HasSuffix(s, "T") {
			t.Fatalf("Duration(%d) = %q", n, s)
		}
		if other, ok := seen[s]; ok && other != n {
			t.Fatalf("%d and %d have the text %q", other, n, s)
		}
		seen[s] = n
		if got, e := ParseDuration(s); got != n || e != api.OK {
			t.Fatalf("ParseDuration(%q) = %d, %d; want %d", s, got, e, n)
		}
	}
	for n := range 2*86400 + 100 {
		check(n)
		check(-n)
	}
	for n := range 4000 {
		check(api.MaxLine - n)
		check(-api.MaxLine + n)
		check(n * 1099511627) // some numbers in between, up to MaxLine
		check(n * -1099511627)
	}
	for n := 1; n <= api.MaxLine; n *= 2 {
		check(n)
		check(-n)
	}
}
