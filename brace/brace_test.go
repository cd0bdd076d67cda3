package brace

import (
	"math"
	"math/rand"
	"regexp"
	"slices"
	"strconv"
	"strings"
	"testing"
	"unicode/utf8"

	"florin/api"
)

// same tells whether two texts with places are one; nil and empty are one.
func same(a, b Brace) bool {
	return slices.Equal(a.Texts, b.Texts) && slices.Equal(a.Places, b.Places)
}

// read is the text with n places that a text is.
func read(t *testing.T, s string, n int) Brace {
	t.Helper()
	b, e, at := Parse(s, n)
	if e != api.OK || at != 0 {
		t.Fatalf("%q of %d places: %d at %d", s, n, e, at)
	}
	return b
}

// wantBrace fails unless a text has these texts and places.
func wantBrace(t *testing.T, s string, n int, texts []string, places ...int) {
	t.Helper()
	if b, e, at := Parse(s, n); e != api.OK || at != 0 || !same(b, Brace{texts, places}) {
		t.Errorf("%q of %d places is %q, %d at %d, not %q, %d", s, n, b, e, at, texts, places)
	}
}

// wantError fails unless a text has that error there, and nothing beside it.
func wantError(t *testing.T, s string, n int, want api.Errno, place int) {
	t.Helper()
	if b, e, at := Parse(s, n); e != want || at != place || !same(b, Brace{}) {
		t.Errorf("%q of %d places is %q, %d at %d, not %d at %d", s, n, b, e, at, want, place)
	}
}

// all is the places from 0 to n - 1, side by side.
func all(n int) string {
	s := ""
	for place := range n {
		s += "{" + strconv.Itoa(place) + "}"
	}
	return s
}

// P13.1

func TestPlacesAndTexts(t *testing.T) {
	wantBrace(t, "{0} km", 1, []string{"", " km"}, 0)
	wantBrace(t, "km {0}", 1, []string{"km ", ""}, 0)
	wantBrace(t, "{0}", 1, []string{"", ""}, 0)
	wantBrace(t, "{1}: {0} km", 2, []string{"", ": ", " km"}, 1, 0)
	wantBrace(t, "{0}{1}", 2, []string{"", "", ""}, 0, 1)
	wantBrace(t, "a{2}b{0}c{1}d", 3, []string{"a", "b", "c", "d"}, 2, 0, 1)
	wantBrace(t, "0{0}0", 1, []string{"0", "0"}, 0)
	wantBrace(t, "€{0}𝟘\x00'", 1, []string{"€", "𝟘\x00'"}, 0)
	wantBrace(t, "\\{0}\\", 1, []string{"\\", "\\"}, 0)
	wantBrace(t, "'{0}'", 1, []string{"'", "'"}, 0)
	wantBrace(t, "\ufffd{0}｛０｝", 1, []string{"\ufffd", "｛０｝"}, 0)
	wantBrace(t, "{9}{8}{7}{6}{5}{4}{3}{2}{1}{0}", 10, make([]string, 11), 9, 8, 7, 6, 5, 4, 3, 2, 1, 0)
}

func TestNoPlaces(t *testing.T) {
	for _, n := range []int{0, -1, -10, math.MinInt} {
		wantBrace(t, "km", n, []string{"km"})
		wantBrace(t, "", n, []string{""})
		for place := range 10 {
			wantError(t, "km{"+strconv.Itoa(place)+"}", n, api.ErrArg, 2)
		}
		wantError(t, "km{", n, api.ErrForm, 2)
	}
}

func TestAllPlacesMustBeThere(t *testing.T) {
	for n := range 15 {
		for there := range 11 {
			switch {
			case there > n:
				wantError(t, all(there)+" x", n, api.ErrArg, 3*n)
			case there < min(n, 10):
				wantError(t, all(there)+" x", n, api.ErrArg, 3*there+2)
			default:
				read(t, all(there)+" x", n)
			}
		}
	}
	for _, n := range []int{11, 12, 100, 1 << 40, math.MaxInt} {
		read(t, all(10), n)
		wantError(t, all(9), n, api.ErrArg, 27)
		wantError(t, "", n, api.ErrArg, 0)
		wantError(t, all(10)+"{10}", n, api.ErrForm, 30)
	}
	wantError(t, "km", 1, api.ErrArg, 2)
	wantError(t, "", 1, api.ErrArg, 0)
	wantError(t, "{1}", 3, api.ErrArg, 3)
	wantError(t, "{2}{0}€", 3, api.ErrArg, 9)
}

func TestPlacesThatMayNotBe(t *testing.T) {
	wantError(t, "{1}", 1, api.ErrArg, 0)
	wantError(t, "{0}{1}", 1, api.ErrArg, 3)
	wantError(t, "é{0}é{2}{1}", 2, api.ErrArg, 7)
	wantError(t, "{9}", 9, api.ErrArg, 0)
	// there ahead
	wantError(t, "{0}{0}", 1, api.ErrArg, 3)
	wantError(t, "{0} {0}{1}", 2, api.ErrArg, 4)
	wantError(t, "{1}{0} {1}", 2, api.ErrArg, 7)
	wantError(t, all(10)+"{9}", 10, api.ErrArg, 30)
	wantError(t, all(10)+"{0}", math.MaxInt, api.ErrArg, 30)
}

func TestBracesThatAreNoPlaces(t *testing.T) {
	for s, at := range map[string]int{
		"{": 0, "}": 0, "{}": 0, "}{": 0, "{0": 0, "0}": 1, "{{0}}": 0, "{{0}": 0, "{0}}": 3, "{0}}}": 3, "{x}": 0, "{0x}": 0, "{00}": 0, "{10}": 0, "{ 0}": 0, "{0 }": 0,
		"{-1}": 0, "{+0}": 0, "{/}": 0, "{:}": 0, "{a}": 0, "{\x00}": 0, "{٠}": 0, "{０}": 0, "{0｝": 0, "｛0}": 4, "{0} }": 4, "{0}{": 3, "{0}{}": 3, "{0} km{0": 6, "a{0}b}": 5,
		"\\{": 1, "'{'": 1, "{{": 0, "}}": 0, "{0{0}": 0, "{0}0}": 4, "{{{0}}}": 0,
	} {
		wantError(t, s, 1, api.ErrForm, at)
		wantError(t, "é"+s, 1, api.ErrForm, 2+at)
		wantError(t, s+"x", 1, api.ErrForm, at)
	}
	for b := range 128 {
		if b < '0' || b > '9' {
			wantError(t, "{"+string(rune(b))+"}", 10, api.ErrForm, 0)
		}
		if b != '}' {
			wantError(t, "{0"+string(rune(b)), 1, api.ErrForm, 0)
		}
	}
}

func TestFirstErrorFromTheLeft(t *testing.T) {
	wantError(t, "{1} {", 1, api.ErrArg, 0)
	wantError(t, "{ {1}", 1, api.ErrForm, 0)
	wantError(t, "{0}{0}}", 1, api.ErrArg, 3)
	wantError(t, "{0}}{0}", 1, api.ErrForm, 3)
	wantError(t, "} {0}", 2, api.ErrForm, 0)
	wantError(t, "{5}{x}", 2, api.ErrArg, 0)
	wantError(t, "km }", 3, api.ErrForm, 3)
}

func TestTextsMustBeRight(t *testing.T) {
	for _, wrong := range []string{"\xff", "\x80", "\xc0\x80", "\xc3", "\xe2\x82", "\xed\xa0\x80", "\xf0\x9d\x84", "\xf4\x90\x80\x80", "\xf8\x88\x80\x80\x80"} {
		for _, s := range []string{wrong, wrong + "{0}", "{0}" + wrong, "a{0}b" + wrong + "c", "}" + wrong, "{" + wrong + "}", "{0" + wrong + "}", "{5}" + wrong, "{0}{0}" + wrong} {
			wantError(t, s, 1, api.ErrForm, 0)
			wantError(t, s, 0, api.ErrForm, 0)
		}
	}
}

var bracesOf = regexp.MustCompile(`\{[0-9]\}|[{}]`)

// expected is what Parse is to tell of a text that is right, by an expression.
func expected(s string, n int) (Brace, api.Errno, int) {
	var b Brace
	there := map[int]bool{}
	from := 0
	for _, m := range bracesOf.FindAllStringIndex(s, -1) {
		if m[1]-m[0] == 1 {
			return Brace{}, api.ErrForm, m[0]
		}
		place := int(s[m[0]+1] - '0')
		if there[place] || place >= n {
			return Brace{}, api.ErrArg, m[0]
		}
		there[place] = true
		b = Brace{append(b.Texts, s[from:m[0]]), append(b.Places, place)}
		from = m[1]
	}
	for place := range min(10, max(n, 0)) {
		if !there[place] {
			return Brace{}, api.ErrArg, len(s)
		}
	}
	return Brace{append(b.Texts, s[from:]), b.Places}, api.OK, 0
}

// hold holds Parse, Fill and String against other means at one text.
func hold(t *testing.T, s string, n int) (isBrace bool) {
	t.Helper()
	want, e, at := expected(s, n)
	if e != api.OK {
		wantError(t, s, n, e, at)
		return false
	}
	wantBrace(t, s, n, want.Texts, want.Places...)
	b := read(t, s, n)
	if got := b.String(); got != s {
		t.Errorf("%q is written %q", s, got)
	}
	wantFilled(t, s, b)
	wantFilled(t, s, b, "5")
	wantFilled(t, s, b, "", "{1}", "€")
	wantFilled(t, s, b, "{2}", "", "b", "{0}", "{9}", "}", "a", "\xff", "8", "99", "ten", "eleven")
	return true
}

// wantFilled fails unless a text that was read is filled as a replacer fills it.
func wantFilled(t *testing.T, s string, b Brace, list ...string) {
	t.Helper()
	var pairs []string
	for place := range 10 {
		put := ""
		if place < len(list) {
			put = list[place]
		}
		pairs = append(pairs, "{"+strconv.Itoa(place)+"}", put)
	}
	replacer := strings.NewReplacer(pairs...)
	want := make([]int, len(list))
	for k := range want {
		if at := strings.Index(s, "{"+strconv.Itoa(k)+"}"); at >= 0 {
			want[k] = len(replacer.Replace(s[:at]))
		}
	}
	text, stands := b.Fill(list...)
	if text != replacer.Replace(s) || !slices.Equal(stands, want) {
		t.Errorf("%q with %q is %q, %d, not %q, %d", s, list, text, stands, replacer.Replace(s), want)
	}
}

func TestEachShortText(t *testing.T) {
	signs := []string{"{", "}", "0", "1", "€"}
	count := 0
	var each func(s string, depth int)
	each = func(s string, depth int) {
		for n := -1; n <= 3; n++ {
			if hold(t, s, n) {
				count++
			}
		}
		for _, sign := range signs {
			if depth > 0 {
				each(s+sign, depth-1)
			}
		}
	}
	each("", 7)
	if count < 1000 {
		t.Errorf("only %d texts with places", count)
	}
}

func TestTextsOfAllSorts(t *testing.T) {
	source := rand.New(rand.NewSource(13))
	count := 0
	for range 100000 {
		n := source.Intn(13)
		places := source.Perm(min(n, 10))
		if source.Intn(4) == 0 {
			places = append(places, source.Intn(10))
		}
		var text strings.Builder
		for _, place := range places {
			text.WriteString([]string{"", "", " ", "a", "€", "00"}[source.Intn(6)])
			text.WriteString("{" + strconv.Itoa(place) + "}")
		}
		s := text.String() + []string{"", "", " km", "𝟘"}[source.Intn(4)]
		if source.Intn(4) == 0 {
			at := source.Intn(len(s) + 1)
			s = s[:at] + []string{"{", "}", "0", " ", "é"}[source.Intn(5)] + s[at:]
		}
		if !utf8.ValidString(s) {
			wantError(t, s, n, api.ErrForm, 0)
		} else if hold(t, s, n) {
			count++
		}
	}
	if count < 20000 {
		t.Errorf("only %d texts with places", count)
	}
}

func TestLongTexts(t *testing.T) {
	long := strings.Repeat("€", 1<<20)
	wantBrace(t, long+"{0}"+long, 1, []string{long, long}, 0)
	wantError(t, long+"{0}"+long+"}", 1, api.ErrForm, 2*len(long)+3)
	wantError(t, strings.Repeat("{", 1<<20), 1, api.ErrForm, 0)
	if text, stands := read(t, long+"{0}", 1).Fill(long); text != long+long || stands[0] != len(long) {
		t.Errorf("%d bytes, filled from %d on", len(text), stands[0])
	}
}

func TestAnswersAreNewMemory(t *testing.T) {
	a, b := read(t, "a{1}b{0}c", 2), read(t, "a{1}b{0}c", 2)
	a.Texts[0], a.Places[0] = "x", 7
	if !same(b, Brace{[]string{"a", "b", "c"}, []int{1, 0}}) {
		t.Errorf("%q was turned by what was told ahead", b)
	}
}

// P13.2

func TestExampleOfTheChapter(t *testing.T) {
	if text, stands := read(t, "{0} km", 1).Fill("5"); text != "5 km" || !slices.Equal(stands, []int{0}) {
		t.Errorf("%q, %d", text, stands)
	}
}

func TestFill(t *testing.T) {
	b := read(t, "{1}: {0} km", 2)
	for _, x := range []struct {
		list   []string
		text   string
		stands []int
	}{
		{nil, ":  km", nil},
		{[]string{"5"}, ": 5 km", []int{2}},
		{[]string{"", "ab"}, "ab:  km", []int{4, 0}},
		{[]string{"5", ""}, ": 5 km", []int{2, 0}},
		{[]string{"5", "ab"}, "ab: 5 km", []int{4, 0}},
		{[]string{"5", "€", "more", ""}, "€: 5 km", []int{5, 0, 0, 0}},
		{[]string{"{1}", "{0}"}, "{0}: {1} km", []int{5, 0}},
		{[]string{"\xff", "}"}, "}: \xff km", []int{3, 0}},
	} {
		list := slices.Clone(x.list)
		if text, stands := b.Fill(list...); text != x.text || !slices.Equal(stands, x.stands) {
			t.Errorf("with %q it is %q, %d, not %q, %d", x.list, text, stands, x.text, x.stands)
		}
		if !slices.Equal(list, x.list) {
			t.Errorf("%q was turned into %q", x.list, list)
		}
	}
	if b.String() != "{1}: {0} km" {
		t.Errorf("filling it turned it into %q", b)
	}
}

func TestFillWithoutPlaces(t *testing.T) {
	for _, s := range []string{"", "km", "€ 0"} {
		if text, stands := read(t, s, 0).Fill("a", "b"); text != s || !slices.Equal(stands, []int{0, 0}) {
			t.Errorf("%q, %d", text, stands)
		}
	}
}

func TestFillWithMoreThanTen(t *testing.T) {
	list := strings.Split("abcdefghijkl", "")
	text, stands := read(t, "-"+all(10), 12).Fill(list...)
	if text != "-abcdefghij" || !slices.Equal(stands, []int{1, 2, 3, 4, 5, 6, 7, 8, 9, 10, 0, 0}) {
		t.Errorf("%q, %d", text, stands)
	}
}

func TestString(t *testing.T) {
	for n, list := range [][]string{{"", "km", "€"}, {"{0}", "{0} km", "km{0}€"}, {"{0}{1}", "{1}: {0} km", "{1}0{0}"}, {"{2}{1}{0}"}} {
		for _, s := range list {
			if got := read(t, s, n).String(); got != s {
				t.Errorf("%q is written %q", s, got)
			}
		}
	}
	for _, n := range []int{10, 11, math.MaxInt} {
		if got := read(t, "x"+all(10), n).String(); got != "x"+all(10) {
			t.Errorf("%q", got)
		}
	}
}

func TestAnythingEnds(t *testing.T) {
	for _, b := range []Brace{
		{}, {Places: []int{0, 1}}, {Texts: []string{"a"}, Places: []int{0, 1, 2}}, {Texts: []string{"a", "b", "c"}},
		{Texts: []string{"a", "b"}, Places: []int{math.MinInt}}, {Texts: []string{"a", "b"}, Places: []int{math.MaxInt}}, {Texts: []string{"a", "b", ""}, Places: []int{-1, 10}},
	} {
		if text, stands := b.Fill(); text != strings.Join(b.Texts, "") || len(stands) != 0 {
			t.Errorf("%q, %d", text, stands)
		}
		if _, stands := b.Fill("x", "y"); len(stands) != 2 {
			t.Errorf("%d", stands)
		}
		_ = b.String()
	}
}
