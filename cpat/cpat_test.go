package cpat

import (
	"math"
	"reflect"
	"strings"
	"testing"

	"florin/api"
	"florin/dec"
	"florin/pattern"
)

// read is the compact pattern of a text that is one.
func read(t *testing.T, s string) Compact {
	t.Helper()
	c, e, at := Parse(s)
	if e != api.OK || at != 0 {
		t.Fatalf("%q: %d at %d", s, e, at)
	}
	return c
}

// wantCompact fails unless a text is a compact pattern of so many noughts, that is a Noop or none.
func wantCompact(t *testing.T, s string, zeros int, noop bool) {
	t.Helper()
	c := read(t, s)
	if c.Zeros != zeros || c.Noop != noop {
		t.Errorf("%q has %d noughts, Noop %v, not %d, %v", s, c.Zeros, c.Noop, zeros, noop)
	}
	if p, _, _ := pattern.Parse(s); !reflect.DeepEqual(c.Pattern, p) {
		t.Errorf("%q has the pattern %+v, not %+v", s, c.Pattern, p)
	}
}

// wantError fails unless a text has that error there, and nothing beside it.
func wantError(t *testing.T, s string, want api.Errno, place int) {
	t.Helper()
	if c, e, at := Parse(s); e != want || at != place || !reflect.DeepEqual(c, Compact{}) {
		t.Errorf("%q is %+v, %d at %d, not %d at %d", s, c, e, at, want, place)
	}
}

// P12.1

func TestNoughtsAreCounted(t *testing.T) {
	for zeros := 1; zeros <= Most; zeros++ {
		number := strings.Repeat("0", zeros)
		wantCompact(t, number, zeros, zeros == 1)
		for _, s := range []string{number + "K", number + " Mio'.'", "¤" + number + "K", "-" + number, number + "%", "a'000'" + number + "'0#,.0'", number + ";-" + number, number + "K;(" + number + "K)"} {
			wantCompact(t, s, zeros, false)
		}
	}
}

func TestSoManyNoughtsAtMost(t *testing.T) {
	if Most != 15 {
		t.Errorf("%d noughts at most", Most)
	}
	for zeros := 16; zeros <= api.MaxPattern; zeros++ {
		wantError(t, strings.Repeat("0", zeros), api.ErrArg, 0)
	}
	for _, s := range []string{"0000000000000000K", "¤ 0000000000000000", "x'a'0000000000000000;0"} {
		wantError(t, s, api.ErrArg, 0)
	}
	// What isn't a nought of the number isn't one of them.
	wantCompact(t, "'0'000000000000000'0'", 15, false)
}

func TestWhatCompactPatternsDoNotHave(t *testing.T) {
	for _, s := range []string{
		"#", "#0", "##", "#00K", "###0", "¤#0", // a # ahead of the point
		"0.0", "0.#", "0.0#", "00.0K", "0.000 Mio", "0.#;0", // places behind it
		"0,0", "0,000", "0,000K", "00,00", "0,0,0", "0,00,00", // a comma
		"#,0", "#,##0", "#.#", "#,##0.00", "#,#", "0,0.0", "¤#,##0.00;(¤#,##0.00)", "#0000000000000000",
	} {
		wantError(t, s, api.ErrArg, 0)
		wantError(t, "é-"+s, api.ErrArg, 0)
		wantError(t, s+"a", api.ErrArg, 0)
		if !strings.Contains(s, ";") {
			wantError(t, s+";0", api.ErrArg, 0)
		}
	}
	for _, s := range []string{"0'#'", "'#'0", "0'.0'", "0','", "'0,0.0#'0", "'#,##0.00;'0"} {
		wantCompact(t, s, 1, false)
	}
}

func TestSecondNumberMakesNoDifference(t *testing.T) {
	for _, second := range []string{"0", "#", "#0", "0.0", "0,0", "#,##0.00", strings.Repeat("0", 50)} {
		wantCompact(t, "00K;-"+second+"K", 2, false)
		wantCompact(t, "0;"+second, 1, false)
		wantError(t, "#0;"+second, api.ErrArg, 0)
	}
}

func TestNoop(t *testing.T) {
	wantCompact(t, "0", 1, true)
	for _, s := range []string{"0K", "K0", "0 ", " 0", "-0", "0-", "+0", "0%", "0‰", "¤0", "0¤", "''0", "0''", "0'a'", "0;0", "0;-0", "0;0K", "0;(0)", "a0b"} {
		wantCompact(t, s, 1, false)
	}
	for _, s := range []string{"00", "000", "00;00"} {
		wantCompact(t, s, len(strings.TrimSuffix(s, ";00")), false)
	}
}

func TestErrorsOfThePatternComeFirst(t *testing.T) {
	for s, at := range map[string]int{
		"": 0, "K": 1, "é": 2, "0#": 1, "0,": 2, "0.": 2, "#,,0": 2, "#,#,#,0": 5, "0 'a": 4, "5": 0, "0a0": 2, "0;": 2, "0;a": 3, "@": 0, ";0": 0,
		"0\xff": 1, "\x800": 0, "5\xff": 1, "0K;0;": 4, "#0.0'": 5, "00000000000000005": 16, "0000000000000000'": 17, "0,000.": 6,
	} {
		wantError(t, s, api.ErrForm, at)
	}
	fill := strings.Repeat("x", api.MaxPattern-1)
	wantCompact(t, "0"+fill, 1, false)
	for _, s := range []string{"00" + fill, "#0" + fill, "x" + fill + "\xff", fill + fill, "0.0" + fill, strings.Repeat("0", api.MaxPattern+1)} {
		wantError(t, s, api.ErrLong, 0)
	}
}

// firstNumber is what stands of a text's first half without quotes, without the signs a and - at its ends.
func firstNumber(s string) string {
	bare := ""
	for i, piece := range strings.Split(s, "'") {
		if i%2 == 0 {
			bare += piece
		}
	}
	half, _, _ := strings.Cut(bare, ";")
	return strings.Trim(half, "a-")
}

func TestEachTextIsHeldAgainstItsPattern(t *testing.T) {
	signs := []string{"0", "#", ",", ".", ";", "'", "a", "-"}
	var hold func(s string, depth int)
	hold = func(s string, depth int) {
		p, e, at := pattern.Parse(s)
		number := firstNumber(s)
		switch {
		case e != api.OK:
			wantError(t, s, e, at)
		case strings.Trim(number, "0") != "":
			wantError(t, s, api.ErrArg, 0)
		default:
			wantCompact(t, s, p.MinInt, s == "0")
			if p.MinInt != len(number) {
				t.Errorf("%q has %d noughts", s, p.MinInt)
			}
		}
		for _, sign := range signs {
			if depth > 0 {
				hold(s+sign, depth-1)
			}
		}
	}
	hold("", 5)
}

func TestAnswersAreNewMemory(t *testing.T) {
	c := read(t, "a00b;c0d")
	c.Pattern.Pos.Pre[0].Text = "x"
	c.Pattern.Neg.Suf[0].Kind = pattern.Cur
	wantCompact(t, "a00b;c0d", 2, false)
}

// P12.2

func TestExampleOfTheChapter(t *testing.T) {
	c := read(t, "00 Mio")
	if c.Zeros != 2 || c.Shift(7) != 6 {
		t.Errorf("%d noughts, Shift %d", c.Zeros, c.Shift(7))
	}
}

func TestShift(t *testing.T) {
	for s, zeros := range map[string]int{"0K": 1, "00K": 2, "000K": 3, "0;-0": 1, "00": 2, "000000000000000": 15, "¤00": 2} {
		for mag := -40; mag <= 110; mag++ {
			if got := read(t, s).Shift(mag); got != mag-zeros+1 {
				t.Errorf("%q: the Shift of %d is %d", s, mag, got)
			}
		}
	}
	for _, mag := range []int{math.MinInt, -api.MaxPlace, -1, 0, 1, 5, 100, api.MaxPlace, math.MaxInt} {
		if got := read(t, "0").Shift(mag); got != 0 {
			t.Errorf("the Shift of %d by a Noop is %d", mag, got)
		}
	}
	if got := read(t, "0K").Shift(math.MinInt); got != math.MinInt {
		t.Errorf("the Shift of the least number is %d", got)
	}
	if got := read(t, "000K").Shift(math.MaxInt); got != math.MaxInt-2 {
		t.Errorf("the Shift of the greatest number is %d", got)
	}
}

func TestShiftLeavesSoManyDigitsAheadOfThePoint(t *testing.T) {
	for zeros := 1; zeros <= Most; zeros++ {
		c := read(t, strings.Repeat("0", zeros)+"K")
		for _, s := range []string{"1", "12345", "9.99", "0.004", "7e20", "123e-30"} {
			x, _ := dec.Parse(s)
			mag, _ := x.Mag()
			if ahead, _ := x.Scale(-c.Shift(mag)).Parts(); len(ahead) != zeros {
				t.Errorf("%s parted by %d has %q ahead of the point", s, c.Shift(mag), ahead)
			}
		}
	}
}

func TestString(t *testing.T) {
	for s, want := range map[string]string{
		"0": "0", "00 Mio": "00 Mio", "00 Mio'.'": "00' Mio.'", "0 'Tsd.'": "0' Tsd.'", "¤000K;-¤000K": "¤000K;-¤000K", "0;-0K": "0;-0K", "'K'0": "K0", "0K;(#,##0.0)": "0K;(0)",
	} {
		c := read(t, s)
		if got := c.String(); got != want {
			t.Errorf("%q is written %q, not %q", s, got, want)
		}
		if got := read(t, want); !reflect.DeepEqual(got, c) {
			t.Errorf("%q is %+v when it is told again", s, got)
		}
	}
}

func TestAnythingEnds(t *testing.T) {
	edges := []int{math.MinInt, -1, 0, 1, math.MaxInt}
	for _, a := range edges {
		for _, b := range edges {
			for _, noop := range []bool{false, true} {
				c := Compact{Zeros: a, Noop: noop, Pattern: pattern.Pattern{MinInt: b, Two: true}}
				if got := c.Shift(b); noop && got != 0 {
					t.Errorf("the Shift of %d by a Noop is %d", b, got)
				}
				if c.String() != c.Pattern.String() {
					t.Errorf("%q isn't that of the pattern", c.String())
				}
			}
		}
	}
}
