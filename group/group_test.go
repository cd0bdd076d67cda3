package group

import (
	"fmt"
	"math"
	"math/rand"
	"regexp"
	"slices"
	"strings"
	"testing"

	"florin/api"
	"florin/dec"
	"florin/glyph"
	"florin/locale"
	"florin/rule"
	"florin/show"
	"florin/table"
)

// english is a table that is well formed.
func english() table.Table {
	return table.Table{
		Digits: glyph.Plain(),
		Minus:  "-", Plus: "+", Percent: "%", Permille: "‰",
		Point: ".", Comma: ",",
		MinGroup: 1,
		Decimal:  "#,##0.###", Per: "#,##0%", Money: "¤#,##0.00", Account: "¤#,##0.00;(¤#,##0.00)",
		MoneyUnit: []table.Text{{Cat: rule.Other, Text: "{0} {1}"}},
		Before:    table.Spacing{Cur: "[]", Num: "[]"},
		After:     table.Spacing{Cur: "[]", Num: "[]"},
	}
}

// arabic is a table whose signs have more bytes than one, and whose comma begins with the same bytes as its point.
func arabic() table.Table {
	t := english()
	t.Digits = glyph.Set{"٠", "١", "٢", "٣", "٤", "٥", "٦", "٧", "٨", "٩"}
	t.Point, t.Comma = "٫", "٬"
	return t
}

// mixed is a table whose signs have one to four bytes.
func mixed() table.Table {
	t := english()
	t.Digits = glyph.Set{"0", "é", "€", "𝟛", "4", ".", ",", "7", "\x00", "\ufffd"}
	t.Point, t.Comma = "1", "’"
	return t
}

// made is a table at hand.
func made(t *testing.T, x table.Table) *locale.Locale {
	t.Helper()
	l, e := locale.New(x)
	if l == nil || e != api.OK {
		t.Fatalf("error %d", e)
	}
	return l
}

// at is a table at hand by which groups are made from so many digits on ahead of the last group.
func at(t *testing.T, x table.Table, minGroup int) *locale.Locale {
	t.Helper()
	x.MinGroup = minGroup
	return made(t, x)
}

// named is parts as one text: each one's kind and text.
func named(list []Part) string {
	var all []string
	for _, p := range list {
		all = append(all, fmt.Sprintf("%d %s", p.Kind, p.Text))
	}
	return strings.Join(all, "|")
}

func wantText(t *testing.T, l *locale.Locale, v show.Vis, last, more int, want string) {
	t.Helper()
	if got := Text(Write(l, v, last, more)); got != want {
		t.Errorf("%+v in groups of %d and %d: %q, not %q", v, last, more, got, want)
	}
}

func wantRead(t *testing.T, l *locale.Locale, s, whole, frac string) {
	t.Helper()
	if v, ok := Read(l, s); !ok || v != (show.Vis{Int: whole, Frac: frac}) {
		t.Errorf("%q: %+v, %v", s, v, ok)
	}
}

func wantNotRead(t *testing.T, l *locale.Locale, texts ...string) {
	t.Helper()
	for _, s := range texts {
		if v, ok := Read(l, s); ok || v != (show.Vis{}) {
			t.Errorf("%q: %+v, %v", s, v, ok)
		}
	}
}

// P18.1

func TestKindsInOrder(t *testing.T) {
	kinds := []Kind{Literal, Int, Comma, Point, Frac, Sign, Percent, Currency, Compact, Unit, Gap}
	for i, k := range kinds {
		if int(k) != i {
			t.Errorf("the kind at %d is %d", i, k)
		}
	}
}

func TestTextAndSpans(t *testing.T) {
	cases := []struct {
		list  []Part
		text  string
		spans []Span
	}{
		{nil, "", nil},
		{[]Part{}, "", nil},
		{[]Part{{}}, "", nil},
		{[]Part{{Kind: Gap}, {Kind: Sign}, {Kind: Int}}, "", nil},
		{[]Part{{Kind: Int, Text: "12"}}, "12", []Span{{Int, 0, 2}}},
		{[]Part{{Text: " "}}, " ", []Span{{Literal, 0, 1}}},
		{[]Part{{Currency, "€"}, {Gap, ""}, {Int, "12"}}, "€12", []Span{{Currency, 0, 3}, {Int, 3, 5}}},
		{[]Part{{Gap, ""}, {Sign, "-"}, {Sign, "-"}, {Unit, ""}, {Compact, "万"}, {Gap, ""}}, "--万", []Span{{Sign, 0, 1}, {Sign, 1, 2}, {Compact, 2, 5}}},
		{[]Part{{-1, "\xff"}, {99, "x\x00"}}, "\xffx\x00", []Span{{-1, 0, 1}, {99, 1, 3}}},
	}
	for _, c := range cases {
		if got := Text(c.list); got != c.text {
			t.Errorf("Text(%v) = %q", c.list, got)
		}
		if got := Spans(c.list); !slices.Equal(got, c.spans) {
			t.Errorf("Spans(%v) = %v", c.list, got)
		}
	}
}

func TestSpansAreWhereTheTextsStand(t *testing.T) {
	source := rand.New(rand.NewSource(18))
	for range 2000 {
		list := make([]Part, source.Intn(8))
		for i := range list {
			list[i] = Part{Kind: Kind(source.Intn(11)), Text: []string{"", "", "a", "€", "12", "\xe2"}[source.Intn(6)]}
		}
		text := Text(list)
		filled := slices.DeleteFunc(slices.Clone(list), func(p Part) bool { return p.Text == "" })
		spans := Spans(list)
		if len(spans) != len(filled) {
			t.Fatalf("%v: %v", list, spans)
		}
		end := 0
		for i, s := range spans {
			if s.Kind != filled[i].Kind || s.From != end || text[s.From:s.To] != filled[i].Text {
				t.Fatalf("%v: %v", list, spans)
			}
			end = s.To
		}
		if end != len(text) {
			t.Fatalf("%v: %v", list, spans)
		}
	}
}

// P18.2

func TestExampleOfTheChapter(t *testing.T) {
	l := made(t, english())
	v := show.Vis{Int: "1234567", Frac: "5"}
	wantText(t, l, v, 3, 0, "1,234,567.5")
	wantText(t, l, v, 3, 3, "1,234,567.5")
}

func TestWriteTellsParts(t *testing.T) {
	l, a := made(t, english()), made(t, arabic())
	cases := []struct {
		l          *locale.Locale
		v          show.Vis
		last, more int
		want       string
	}{
		{l, show.Vis{}, 3, 3, ""},
		{l, show.Vis{Int: "0"}, 3, 3, "1 0"},
		{l, show.Vis{Neg: true, Int: "12"}, 3, 0, "1 12"},
		{l, show.Vis{Int: "1234"}, 3, 0, "1 1|2 ,|1 234"},
		{l, show.Vis{Int: "1234"}, 0, 2, "1 1234"},
		{l, show.Vis{Frac: "1234"}, 3, 3, "3 .|4 1234"},
		{l, show.Vis{Neg: true, Int: "1234567", Frac: "1234"}, 3, 2, "1 12|2 ,|1 34|2 ,|1 567|3 .|4 1234"},
		{l, show.Vis{Int: "0001", Frac: "000"}, 2, 1, "1 0|2 ,|1 0|2 ,|1 01|3 .|4 000"},
		{a, show.Vis{Int: "1234", Frac: "50"}, 3, 0, "1 ١|2 ٬|1 ٢٣٤|3 ٫|4 ٥٠"},
		{a, show.Vis{Int: "1234"}, 4, 0, "1 ١٢٣٤"},
	}
	for _, c := range cases {
		if got := named(Write(c.l, c.v, c.last, c.more)); got != c.want {
			t.Errorf("%+v in groups of %d and %d: %q, not %q", c.v, c.last, c.more, got, c.want)
		}
	}
}

func TestWriteGroups(t *testing.T) {
	l := made(t, english())
	cases := []struct {
		digits     string
		last, more int
		want       string
	}{
		{"123", 3, 3, "123"}, {"1234", 3, 3, "1,234"}, {"123456", 3, 3, "123,456"}, {"1234567", 3, 3, "1,234,567"},
		{"1234567", 3, 2, "12,34,567"}, {"123456", 3, 2, "1,23,456"}, {"1234567", 2, 3, "12,345,67"}, {"1234567", 1, 5, "1,23456,7"},
		{"123", 1, 1, "1,2,3"}, {"12", 1, 0, "1,2"}, {"1", 1, 1, "1"}, {"12345", 4, 0, "1,2345"}, {"123456789", 4, -7, "1,2345,6789"},
		{"1234", 3, math.MaxInt, "1,234"}, {"1234567", 3, math.MaxInt, "1234,567"}, {"1234567", 3, math.MinInt, "1,234,567"}, {"1234567", 3, 4, "1234,567"}, {"1234567", 3, 5, "1234,567"},
		{"1234", 4, 1, "1234"}, {"1234", 5, 1, "1234"}, {"1234", math.MaxInt, 1, "1234"}, {"1234", math.MaxInt - 1, math.MaxInt, "1234"},
		{"1234567", 0, 3, "1234567"}, {"1234567", -1, 3, "1234567"}, {"1234567", math.MinInt, 3, "1234567"}, {"1234567", math.MinInt, math.MinInt, "1234567"},
	}
	for _, c := range cases {
		wantText(t, l, show.Vis{Int: c.digits}, c.last, c.more, c.want)
	}
}

func TestWriteGroupsFromMinGroupOn(t *testing.T) {
	digits := "123456789"
	for minGroup := 1; minGroup <= 4; minGroup++ {
		l := at(t, english(), minGroup)
		for last := 1; last <= 10; last++ {
			for n := range len(digits) + 1 {
				parts := Write(l, show.Vis{Int: digits[:n]}, last, 0)
				if got, want := len(parts) > 1, n >= last+minGroup; got != want {
					t.Errorf("%d digits, %d last ones, from %d on: %v", n, last, minGroup, parts)
				}
			}
		}
	}
}

// commas is digits with a comma ahead of each place where a group begins, found for each digit by itself.
func commas(digits string, last, more, minGroup int, comma string) string {
	if last < 1 || len(digits) < last+minGroup {
		return digits
	}
	if more < 1 {
		more = last
	}
	text := ""
	for i := range len(digits) {
		if left := len(digits) - i; i > 0 && left >= last && (left-last)%more == 0 {
			text += comma
		}
		text += digits[i : i+1]
	}
	return text
}

func TestWriteAsDigitByDigit(t *testing.T) {
	for minGroup := 1; minGroup <= 4; minGroup++ {
		plain, signs := at(t, english(), minGroup), at(t, mixed(), minGroup)
		for n := range 14 {
			digits := strings.Repeat("9051234678", 2)[:n]
			for last := -1; last <= 6; last++ {
				for more := -1; more <= 6; more++ {
					for _, frac := range []string{"", "0", "120"} {
						v := show.Vis{Neg: n%2 == 0, Int: digits, Frac: frac}
						want := commas(digits, last, more, minGroup, ",")
						if frac != "" {
							want += "." + frac
						}
						wantText(t, plain, v, last, more, want)
						wantText(t, signs, v, last, more, signed(want))
						wantFilled(t, Write(signs, v, last, more))
					}
				}
			}
		}
	}
}

// signed is a text of the table english as that of the table mixed.
func signed(s string) string {
	text := ""
	for _, r := range s {
		switch r {
		case ',':
			text += mixed().Comma
		case '.':
			text += mixed().Point
		default:
			text += mixed().Digits[r-'0']
		}
	}
	return text
}

// wantFilled wants no part to be empty, and no two of one kind side by side.
func wantFilled(t *testing.T, list []Part) {
	t.Helper()
	for i, p := range list {
		if p.Text == "" || i > 0 && p.Kind == list[i-1].Kind {
			t.Errorf("%d of %v", i, list)
		}
	}
}

func TestWriteNoTextOfWhatIsNoDigits(t *testing.T) {
	l := made(t, english())
	for _, wrong := range []string{"x", "1x34567", "123456x", "1,234", "-1", "١", "\xff"} {
		for last := range 4 {
			wantText(t, l, show.Vis{Int: wrong}, last, 0, "")
			wantText(t, l, show.Vis{Int: wrong, Frac: wrong}, last, 0, "")
			wantText(t, l, show.Vis{Int: "7", Frac: wrong}, last, 3, "7")
			wantText(t, l, show.Vis{Int: wrong, Frac: "5"}, last, 3, ".5")
		}
	}
}

func TestWriteTellsNewMemory(t *testing.T) {
	l := made(t, english())
	v := show.Vis{Int: "1234567", Frac: "5"}
	first := Write(l, v, 3, 0)
	want := named(first)
	for i := range first {
		first[i] = Part{}
	}
	if got := named(Write(l, v, 3, 0)); got != want {
		t.Errorf("%s, not %s", got, want)
	}
}

func TestWriteManyDigits(t *testing.T) {
	l := made(t, english())
	digits := strings.Repeat("1234567890", 3000)
	list := Write(l, show.Vis{Int: digits, Frac: digits}, 1, 1)
	if len(list) != 2*len(digits)+1 {
		t.Fatal(len(list))
	}
	if v, ok := Read(l, Text(list)); !ok || v.Int != digits || v.Frac != digits {
		t.Error("other digits are read")
	}
}

// P18.3

func TestRead(t *testing.T) {
	l := made(t, english())
	wantRead(t, l, "0", "0", "")
	wantRead(t, l, "1234567", "1234567", "")
	wantRead(t, l, "1,234,567.5", "1234567", "5")
	wantRead(t, l, "1,2,3", "123", "")
	wantRead(t, l, "123456,7.80", "1234567", "80")
	wantRead(t, l, ".5", "", "5")
	wantRead(t, l, "000.000", "000", "000")
	wantNotRead(t, l, "", ",", ".", "..", ",,", ".,", ",.", "1,", "1.", ",1", "1,,2", "1,.5", "1.,5", ",.5", ".5,", ".5,5", "1.5.", "1..5", "1.2.3", "1.2,3", "1,2.3,4", ".1.", "..1", ",1.5")
	wantNotRead(t, l, "-1", "+1", " 1", "1 ", "1x", "x1", "1x2", "1x.5", "1.5x", "1.x5", "x.5", "1,x", "x,1", "1,2x,3", "1e3", "1\x00", "1\xff", "\xff", "\xff.5", "1.\xff", "1,\xff", "1'234", "١", "1٫5", "1٬234")
}

func TestReadSignsOfSeveralBytes(t *testing.T) {
	l := made(t, arabic())
	wantRead(t, l, "١٬٢٣٤٫٥٠", "1234", "50")
	wantRead(t, l, "٫٠", "", "0")
	wantRead(t, l, "٩٬٩", "99", "")
	wantNotRead(t, l, "1", "1.5", "١.٥", "١,٢", "٬١", "١٬", "١٫", "١٫٢٫٣", "١٫٢٬٣", "١٬٫٣", "١1", "١٫1", "1٫١", "١٬1")
	for _, s := range []string{"١", "١٬٢", "٫٣", "١٫٣"} { // no end within a sign, and no beginning
		wantNotRead(t, l, s[:len(s)-1], s[1:], s+"\xd9", "\xd9"+s, s+"\xab")
	}
	m := made(t, mixed())
	wantRead(t, m, ".,’7\x001\ufffd0", "5678", "90")
	wantNotRead(t, m, "8", "9", ".,’7\x001\xff", "5", ".’1.")
}

// isRead is what P18.3 asks for, told by a form.
var isRead = regexp.MustCompile(`^([0-9]+(?:,[0-9]+)*)?(?:\.([0-9]+))?$`)

func TestReadAllShortTexts(t *testing.T) {
	l, m := made(t, english()), made(t, mixed())
	alphabet := "07,.x"
	texts := []string{""}
	for range 7 {
		var longer []string
		for _, s := range texts {
			for i := range alphabet {
				longer = append(longer, s+alphabet[i:i+1])
			}
		}
		texts = longer
		for _, s := range texts {
			wantAsForm(t, l, s, s)
			if !strings.Contains(s, "x") {
				wantAsForm(t, m, s, signed(s))
			}
		}
	}
}

// wantAsForm wants a text to be read as the form tells of the plain text that it stands for.
func wantAsForm(t *testing.T, l *locale.Locale, plain, s string) {
	t.Helper()
	found := isRead.FindStringSubmatch(plain)
	if found == nil || found[1]+found[2] == "" {
		wantNotRead(t, l, s)
		return
	}
	wantRead(t, l, s, strings.ReplaceAll(found[1], ",", ""), found[2])
}

func TestReadOfWriteIsTheDigits(t *testing.T) {
	source := rand.New(rand.NewSource(183))
	for minGroup := 1; minGroup <= 4; minGroup++ {
		list := []*locale.Locale{at(t, english(), minGroup), at(t, arabic(), minGroup), at(t, mixed(), minGroup)}
		for range 3000 {
			x := dec.Dec{Neg: source.Intn(2) == 0, Digits: fmt.Sprint(source.Intn(1 << source.Intn(40))), Exp: source.Intn(12) - 6}
			p := show.Prec{Min: source.Intn(3), Max: 3 + source.Intn(3), MinInt: source.Intn(6)}
			v, e := p.Apply(x)
			if e != api.OK {
				t.Fatal(e)
			}
			for _, l := range list {
				text := Text(Write(l, v, source.Intn(5), source.Intn(5)-1))
				wantRead(t, l, text, v.Int, v.Frac)
			}
		}
	}
}
