package glyph

import (
	"math/rand"
	"strings"
	"testing"
	"unicode/utf8"
)

// broken is bytes that are no sign, nor begin or end with one: parts of signs, signs that are longer than they need be, halves of pairs, numbers beyond the last one.
var broken = []string{"\x80", "\xbf", "\xc0", "\xc1", "\xc2", "\xe2", "\xe2\x82", "\xf0\x9f\x92", "\xf5", "\xff", "\xc0\x80", "\xc1\xbf", "\xe0\x80\x80", "\xe0\x9f\xbf", "\xed\xa0\x80", "\xed\xbf\xbf", "\xf0\x8f\xbf\xbf", "\xf4\x90\x80\x80", "\xf8\x88\x80\x80\x80", "\x82\xac", "\xfe\xff"}

// points is code points at the edges between lengths of signs, and others.
var points = []rune{0, ' ', '0', '9', 'a', 0x7f, 0x80, 0xa0, 0xe9, 0x660, 0x7ff, 0x800, 0x20ac, 0xd7ff, 0xe000, 0xfeff, 0xfffd, 0xfffe, 0xffff, 0x10000, 0x1d7d8, 0x10fffe, 0x10ffff}

// sign is a code point's bytes, found by other means.
func sign(r rune) string {
	switch {
	case r < 0x80:
		return string([]byte{byte(r)})
	case r < 0x800:
		return string([]byte{0xc0 | byte(r>>6), 0x80 | byte(r&63)})
	case r < 0x10000:
		return string([]byte{0xe0 | byte(r>>12), 0x80 | byte(r>>6&63), 0x80 | byte(r&63)})
	}
	return string([]byte{0xf0 | byte(r>>18), 0x80 | byte(r>>12&63), 0x80 | byte(r>>6&63), 0x80 | byte(r&63)})
}

// isHalf tells whether a number is half of a pair, which is no code point.
func isHalf(r rune) bool { return r >= 0xd800 && r <= 0xdfff }

// wantEnds fails unless a text's first and last signs are these.
func wantEnds(t *testing.T, s string, first rune, firstOK bool, last rune, lastOK bool) {
	t.Helper()
	if r, ok := First(s); r != first || ok != firstOK {
		t.Errorf("First(%q) is %U, %v", s, r, ok)
	}
	if r, ok := Last(s); r != last || ok != lastOK {
		t.Errorf("Last(%q) is %U, %v", s, r, ok)
	}
}

// P9.1

func TestEveryCodePointIsOneSign(t *testing.T) {
	for r := rune(0); r <= 0x10ffff; r++ {
		s := sign(r)
		right := !isHalf(r)
		if Right(s) != right || One(s) != right {
			t.Fatalf("%U: Right %v, One %v", r, Right(s), One(s))
		}
		first, firstOK := First(s)
		last, lastOK := Last(s)
		if right && (first != r || last != r) || !right && (first != 0 || last != 0) || firstOK != right || lastOK != right {
			t.Fatalf("%U: First %U, %v, Last %U, %v", r, first, firstOK, last, lastOK)
		}
	}
}

func TestNoTextAtAll(t *testing.T) {
	if !Right("") || One("") {
		t.Error("no text is right, and isn't one sign")
	}
	wantEnds(t, "", 0, false, 0, false)
}

func TestSeveralSigns(t *testing.T) {
	for _, a := range points {
		for _, b := range points {
			s := sign(a) + sign(b)
			if !Right(s) || One(s) || One(s+sign(a)) || !Right(s+s) {
				t.Errorf("%q: Right %v, One %v", s, Right(s), One(s))
			}
			wantEnds(t, s, a, true, b, true)
			wantEnds(t, sign(a)+"xyz"+sign(b), a, true, b, true)
		}
	}
}

func TestWrongBytes(t *testing.T) {
	for _, bad := range broken {
		if Right(bad) || One(bad) {
			t.Errorf("%q is right", bad)
		}
		wantEnds(t, bad, 0, false, 0, false)
		for _, r := range points {
			s := sign(r)
			for _, text := range []string{bad + s, s + bad, s + bad + s, bad + s + bad} {
				if Right(text) || One(text) {
					t.Errorf("%q is right", text)
				}
			}
			wantEnds(t, bad+"."+s, 0, false, r, true)
			wantEnds(t, s+"."+bad, r, true, 0, false)
			wantEnds(t, s+"."+bad+"."+s, r, true, r, true)
			wantEnds(t, bad+"."+s+"."+bad, 0, false, 0, false)
		}
	}
}

func TestAllOfTwoBytes(t *testing.T) {
	for a := range 256 {
		for b := range 256 {
			s := string([]byte{byte(a), byte(b)})
			two := a < 0x80 && b < 0x80
			one := a >= 0xc2 && a <= 0xdf && b >= 0x80 && b <= 0xbf
			if Right(s) != (two || one) || One(s) != one {
				t.Errorf("%q: Right %v, One %v", s, Right(s), One(s))
			}
		}
	}
}

func TestSignsCutShort(t *testing.T) {
	for _, r := range points {
		s := sign(r)
		for cut := 1; cut < len(s); cut++ {
			for _, piece := range []string{s[:cut], s[cut:]} {
				if Right(piece) || One(piece) {
					t.Errorf("%q is right", piece)
				}
				wantEnds(t, piece, 0, false, 0, false)
			}
			wantEnds(t, "5"+s[:cut], '5', true, 0, false)
			wantEnds(t, s[cut:]+"5", 0, false, '5', true)
		}
	}
}

func TestWrongBytesAreNotTheSignForThem(t *testing.T) {
	wantEnds(t, "\xef\xbf\xbd", 0xfffd, true, 0xfffd, true)
	wantEnds(t, "\xff\xef\xbf\xbd", 0, false, 0xfffd, true)
	wantEnds(t, "\xef\xbf\xbd\xff", 0xfffd, true, 0, false)
	if !One("\xef\xbf\xbd") || !Right("\xef\xbf\xbd\xef\xbf\xbd") {
		t.Error("U+FFFD is a sign as any other")
	}
}

// P9.2

// sets is Sets that are Valid, with signs of all lengths.
func sets() []Set {
	return []Set{
		Plain(),
		{"٠", "١", "٢", "٣", "٤", "٥", "٦", "٧", "٨", "٩"},
		{"〇", "一", "二", "三", "四", "五", "六", "七", "八", "九"},
		{"𝟘", "𝟙", "𝟚", "𝟛", "𝟜", "𝟝", "𝟞", "𝟟", "𝟠", "𝟡"},
		{"9", "8", "7", "6", "5", "4", "3", "2", "1", "0"},
		{"a", "\x00", "é", "€", "𝟡", "\ufffd", " ", "-", ".", "\U0010ffff"},
	}
}

func TestPlain(t *testing.T) {
	g := Plain()
	for d := range 10 {
		if g[d] != string(rune('0'+d)) {
			t.Errorf("%d is %q", d, g[d])
		}
	}
	g[0] = "x"
	if Plain()[0] != "0" {
		t.Error("what is told is turned by whom it was told to")
	}
}

func TestValid(t *testing.T) {
	for _, g := range sets() {
		if !g.Valid() {
			t.Errorf("%q isn't Valid", g)
		}
		for d := range 10 {
			for _, text := range append([]string{"", "ab", "00", "€€", "x\xff", "e\u0301"}, broken...) {
				wrong := g
				wrong[d] = text
				if wrong.Valid() {
					t.Errorf("%q is Valid", wrong)
				}
			}
			for other := range 10 {
				twice := g
				twice[d] = g[other]
				if twice.Valid() != (d == other) {
					t.Errorf("%q: Valid %v", twice, twice.Valid())
				}
			}
		}
	}
	if (Set{}).Valid() {
		t.Error("a Set without texts is Valid")
	}
}

func TestValidHoldsTheBytesAgainstEachOther(t *testing.T) {
	g := Plain()
	g[0], g[1], g[2] = "a", "A", "\u212b"
	g[3] = "\u00c5" // looks like the one ahead, but is another code point
	if !g.Valid() {
		t.Errorf("%q isn't Valid", g)
	}
}

func TestWrite(t *testing.T) {
	for _, g := range sets() {
		for _, digits := range []string{"", "0", "9", "00", "0123456789", "9876543210", "1525", strings.Repeat("907", 1000)} {
			var want []string
			for _, d := range digits {
				want = append(want, g[d-'0'])
			}
			if got := g.Write(digits); got != strings.Join(want, "") {
				t.Errorf("Write(%q) is %q", digits, got)
			}
		}
	}
}

func TestWriteOfWhatIsNoDigits(t *testing.T) {
	for _, g := range sets() {
		for _, s := range []string{"/", ":", "a", "x1", "1x", "1.5", "-1", "+1", " 1", "1 ", "1,2", "٣", "1٣", "１", "\x00", "\xff", "1\xff", "\xb0"} {
			if got := g.Write(s); got != "" {
				t.Errorf("Write(%q) is %q", s, got)
			}
		}
	}
}

func TestWriteTakesTextsAsTheyAre(t *testing.T) {
	g := Set{"", "one", "\xff", "1", "1", "", "", "", "", "é"}
	for digits, want := range map[string]string{"0": "", "000": "", "1": "one", "11": "oneone", "102": "one\xff", "3445": "111", "9": "é", "0906": "é"} {
		if got := g.Write(digits); got != want {
			t.Errorf("Write(%q) is %q, not %q", digits, got, want)
		}
	}
}

func TestOne(t *testing.T) {
	for _, g := range sets() {
		for d := range 10 {
			for _, behind := range []string{"", g[0], g[9], "zz", "\xff", "\x80", g[d]} {
				if got, size := g.One(g[d] + behind); got != d || size != len(g[d]) {
					t.Errorf("One(%q) is %d, %d", g[d]+behind, got, size)
				}
			}
			for cut := range len(g[d]) {
				if got, size := g.One(g[d][:cut]); got != -1 || size != 0 {
					t.Errorf("One(%q) is %d, %d", g[d][:cut], got, size)
				}
			}
			for _, ahead := range []string{"z", "\xff", "\x80", "ß", "\U0001f600"} {
				if got, size := g.One(ahead + g[d]); got != -1 || size != 0 {
					t.Errorf("One(%q) is %d, %d", ahead+g[d], got, size)
				}
			}
		}
	}
}

func TestOneIsTheLeastDigit(t *testing.T) {
	g := Set{"", "ab", "a", "a", "abc", "", "c", "c", "cc", "\xff"}
	for s, want := range map[string][2]int{"": {-1, 0}, "a": {2, 1}, "ab": {1, 2}, "abc": {1, 2}, "ac": {2, 1}, "cc": {6, 1}, "b": {-1, 0}, "\xff": {9, 1}, "\xff\xff": {9, 1}, "\xfe": {-1, 0}} {
		if d, size := g.One(s); d != want[0] || size != want[1] {
			t.Errorf("One(%q) is %d, %d", s, d, size)
		}
	}
	for _, s := range []string{"", "0", "x"} {
		if d, size := (Set{}).One(s); d != -1 || size != 0 {
			t.Errorf("One(%q) of no texts is %d, %d", s, d, size)
		}
	}
}

func TestRead(t *testing.T) {
	for s, want := range map[string]string{"12.5": "12", "": "", ".5": "", "12": "12", "007": "007", "1 2": "1", "-1": "", "9\xff9": "9", "1٣": "1", "0123456789x": "0123456789", "x1": ""} {
		if digits, size := Plain().Read(s); digits != want || size != len(want) {
			t.Errorf("Read(%q) is %q, %d", s, digits, size)
		}
	}
	g := Plain()
	g[5] = "€"
	for s, want := range map[string]struct {
		digits string
		size   int
	}{"1€2.5": {"152", 5}, "€": {"5", 3}, "5": {"", 0}, "1\xe2\x82": {"1", 1}, "€€5€": {"55", 6}} {
		if digits, size := g.Read(s); digits != want.digits || size != want.size {
			t.Errorf("Read(%q) is %q, %d", s, digits, size)
		}
	}
}

func TestReadGoesByOne(t *testing.T) {
	g := Set{"", "ab", "a", "a", "abc", "", "c", "c", "cc", "\xff"}
	for s, want := range map[string]struct {
		digits string
		size   int
	}{"": {"", 0}, "abc": {"16", 3}, "aab": {"21", 3}, "ccb": {"66", 2}, "b": {"", 0}, "a\xffb": {"29", 2}} {
		if digits, size := g.Read(s); digits != want.digits || size != want.size {
			t.Errorf("Read(%q) is %q, %d", s, digits, size)
		}
	}
	if digits, size := (Set{}).Read("012"); digits != "" || size != 0 {
		t.Errorf("Read of no texts is %q, %d", digits, size)
	}
}

func TestReadTellsWhatWriteWrote(t *testing.T) {
	source := rand.New(rand.NewSource(9))
	for _, g := range sets() {
		for size := range 200 {
			digits := make([]byte, size)
			for i := range digits {
				digits[i] = byte('0' + source.Intn(10))
			}
			written := g.Write(string(digits))
			for _, behind := range []string{"", "z", "z" + written, "ß", "\xff", "\x80", "\xe2\x82", "\U0001f600"} {
				if d, _ := g.One(behind); d >= 0 {
					t.Fatalf("%q begins with a digit's sign", behind)
				}
				got, n := g.Read(written + behind)
				if got != string(digits) || n != len(written) {
					t.Errorf("Read(%q) is %q, %d", written+behind, got, n)
				}
			}
			if utf8.RuneCountInString(written) != size {
				t.Errorf("%q has not as many signs as %q", written, digits)
			}
		}
	}
}

func TestReadOfALongText(t *testing.T) {
	for _, g := range sets() {
		digits := strings.Repeat("1234567890", 20000)
		if got, n := g.Read(g.Write(digits) + "z"); got != digits || n != len(g.Write(digits)) {
			t.Error("a long text isn't read as it was written")
		}
	}
}
