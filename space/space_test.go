package space

import (
	"fmt"
	"math"
	"math/rand"
	"reflect"
	"slices"
	"strings"
	"testing"
	"unicode/utf8"

	"florin/api"
	"florin/class"
	"florin/glyph"
	"florin/group"
	"florin/locale"
	"florin/pattern"
	"florin/rule"
	"florin/show"
	"florin/table"
)

// english is a table with a blank between letters and digits on both sides.
func english() table.Table {
	letters := table.Spacing{Cur: "[A-Z]", Num: "[0-9]", Insert: " "}
	return table.Table{
		Digits: glyph.Plain(),
		Minus:  "-", Plus: "+", Percent: "%", Permille: "‰",
		Point: ".", Comma: ",",
		MinGroup: 1,
		Decimal:  "#,##0.###", Per: "#,##0%", Money: "¤#,##0.00", Account: "¤#,##0.00;(¤#,##0.00)",
		MoneyUnit: []table.Text{{Cat: rule.Other, Text: "{0} {1}"}},
		Before:    letters, After: letters,
	}
}

// other is a table with signs of its own, each side with something else between.
func other() table.Table {
	t := english()
	t.Minus, t.Plus, t.Percent, t.Permille = "−", "plus", "v. H.", "v. T."
	t.Before = table.Spacing{Cur: "[^$]", Num: "[0-9 \\-−]", Insert: "\u00a0"}
	t.After = table.Spacing{Cur: "[$A]", Num: "[5]", Insert: "··"}
	return t
}

// made is a table at hand.
func made(t *testing.T, x table.Table) *locale.Locale {
	t.Helper()
	l, e := locale.New(x)
	if l == nil || e != api.OK {
		t.Fatalf("error %d", e)
	}
	return l
}

// read is a class.
func read(t *testing.T, s string) class.Class {
	t.Helper()
	c, e, at := class.Parse(s)
	if e != api.OK {
		t.Fatalf("%s: error %d at %d", s, e, at)
	}
	return c
}

// sides is what stands about a pattern's number.
func sides(t *testing.T, s string, neg bool) pattern.Sides {
	t.Helper()
	p, e, at := pattern.Parse(s)
	if e != api.OK {
		t.Fatalf("%s: error %d at %d", s, e, at)
	}
	return p.Sides(neg)
}

// signs is a currency's sign of each count: $, USD, and dollars of more.
func signs(n int) string {
	switch n {
	case 1:
		return "$"
	case 2:
		return "USD"
	}
	return "dollars"
}

// named is parts as one text: each one's kind and text.
func named(list []group.Part) string {
	var all []string
	for _, p := range list {
		all = append(all, fmt.Sprintf("%d %s", p.Kind, p.Text))
	}
	return strings.Join(all, "|")
}

// number is digits as parts.
func number(text string) []group.Part { return []group.Part{{Kind: group.Int, Text: text}} }

func wantParts(t *testing.T, what string, got []group.Part, want ...group.Part) {
	t.Helper()
	if !slices.Equal(got, want) {
		t.Errorf("%s: %s, not %s", what, named(got), named(want))
	}
}

// P21.1

func TestExampleOfTheChapter(t *testing.T) {
	l := made(t, english())
	if s := Between(l.Before, "USD", "5", true); s != " " {
		t.Errorf("%q", s)
	}
	if s := Between(l.Before, "$", "5", true); s != "" {
		t.Errorf("%q", s)
	}
	want := map[string]string{"¤0": "$5", "¤¤0": "USD 5", "0¤": "5$", "0¤¤": "5 USD"}
	for s, text := range want {
		if got := group.Text(Around(l, sides(t, s, false), number("5"), group.Literal, signs)); got != text {
			t.Errorf("%s: %q", s, got)
		}
	}
}

func TestBetween(t *testing.T) {
	x := locale.Space{Cur: read(t, "[A-Z€\\u{1f4b2}]"), Num: read(t, "[0-9−\\u{fffd}\\u{7d0}]"), Insert: "<>"}
	cases := []struct {
		ahead, behind string
		sign, put     bool
	}{
		{"A", "0", true, true},
		{"Z", "9", true, true},
		{"@", "0", true, false},
		{"A", "/", true, false},
		{"A", "A", true, false},
		{"0", "0", true, false},
		{"0", "A", true, false},
		{"0", "A", false, true},
		{"9", "Z", false, true},
		{"A", "0", false, false},
		{"A", "A", false, false},
		{"0", "0", false, false},
		{"$A", "0$", true, true},
		{"A$", "0", true, false},
		{"A", "$0", true, false},
		{"$0", "A$", false, true},
		{"0$", "A", false, false},
		{"0", "$A", false, false},
		{"5€", "−5", true, true},
		{"−", "€", false, true},
		{"💲", "\ufffd", true, true},
		{"\ufffd", "💲", false, true},
		{"\u07d0", "💲", false, true},
	}
	for _, c := range cases {
		want := ""
		if c.put {
			want = "<>"
		}
		if got := Between(x, c.ahead, c.behind, c.sign); got != want {
			t.Errorf("%q, %q, %v: %q", c.ahead, c.behind, c.sign, got)
		}
	}
}

func TestBetweenOfNoText(t *testing.T) {
	all := locale.Space{Cur: read(t, "[^]"), Num: read(t, "[^]"), Insert: " "}
	for _, sign := range []bool{true, false} {
		for _, texts := range [][2]string{{"", ""}, {"A", ""}, {"", "5"}} {
			if got := Between(all, texts[0], texts[1], sign); got != "" {
				t.Errorf("%q, %v: %q", texts, sign, got)
			}
		}
		if got := Between(all, "A", "5", sign); got != " " {
			t.Errorf("%v: %q", sign, got)
		}
	}
}

func TestBetweenOfWrongBytes(t *testing.T) {
	all := locale.Space{Cur: read(t, "[^]"), Num: read(t, "[^]"), Insert: " "}
	for _, bad := range []string{"\x80", "\xff", "\xc2", "\xe2\x82", "\xed\xa0\x80", "\xf4\x90\x80\x80", "\xc0\x80"} {
		for _, sign := range []bool{true, false} {
			for _, texts := range [][2]string{{bad, "5"}, {"A" + bad, "5"}, {"A", bad}, {"A", bad + "5"}, {bad, bad}} {
				if got := Between(all, texts[0], texts[1], sign); got != "" {
					t.Errorf("%q, %v: %q", texts, sign, got)
				}
			}
			// Bytes that are wrong elsewhere make no difference.
			if got := Between(all, bad+"A", "5"+bad, sign); got != " " {
				t.Errorf("%q, %v: %q", bad, sign, got)
			}
		}
	}
}

func TestBetweenByNoClass(t *testing.T) {
	for _, x := range []locale.Space{{Insert: " "}, {Cur: read(t, "[^]"), Insert: " "}, {Num: read(t, "[^]"), Insert: " "}, {Cur: read(t, "[^]"), Num: read(t, "[^]")}} {
		for _, sign := range []bool{true, false} {
			if got := Between(x, "A", "5", sign); got != "" {
				t.Errorf("%+v, %v: %q", x, sign, got)
			}
		}
	}
}

// TestBetweenOfAnyTexts holds Between against the runes of the texts.
func TestBetweenOfAnyTexts(t *testing.T) {
	r := rand.New(rand.NewSource(21))
	pieces := []string{"", "A", "Z", "a", "0", "9", "$", "€", "💲", "−", "\u00a0", "\ufffd", "\x80", "\xe2", "\xf0\x9f"}
	text := func() string {
		return pieces[r.Intn(len(pieces))] + pieces[r.Intn(len(pieces))] + pieces[r.Intn(len(pieces))]
	}
	classes := []string{"[]", "[^]", "[A-Z]", "[^A-Z]", "[0-9−]", "[€💲]", "[\\u{fffd}]", "[^\\u{fffd}]"}
	for range 50000 {
		cur, num := read(t, classes[r.Intn(len(classes))]), read(t, classes[r.Intn(len(classes))])
		ahead, behind, sign := text(), text(), r.Intn(2) == 0
		last, next, ok := ends(ahead, behind)
		want := ""
		if ok && (sign && cur.Has(last) && num.Has(next) || !sign && num.Has(last) && cur.Has(next)) {
			want = "<>"
		}
		if got := Between(locale.Space{Cur: cur, Num: num, Insert: "<>"}, ahead, behind, sign); got != want {
			t.Fatalf("%s, %s, %q, %q, %v: %q", cur, num, ahead, behind, sign, got)
		}
	}
}

// ends is the last code point of a text, and the first one of the next; false: one isn't right there.
func ends(ahead, behind string) (rune, rune, bool) {
	tails, heads := 0, 0
	var last, next rune
	for size := 1; size <= utf8.UTFMax; size++ {
		if size <= len(ahead) && isSign(ahead[len(ahead)-size:]) {
			last, tails = []rune(ahead[len(ahead)-size:])[0], tails+1
		}
		if size <= len(behind) && isSign(behind[:size]) {
			next, heads = []rune(behind[:size])[0], heads+1
		}
	}
	return last, next, tails == 1 && heads == 1
}

func isSign(s string) bool { return utf8.ValidString(s) && utf8.RuneCountInString(s) == 1 }

// P21.2

func TestAffixOfEachKind(t *testing.T) {
	list := []pattern.Piece{{Kind: pattern.Lit, Text: "x y"}, {Kind: pattern.Minus}, {Kind: pattern.Plus}, {Kind: pattern.Percent}, {Kind: pattern.Permille}, {Kind: pattern.Cur, N: 2}}
	for kind := group.Literal; kind <= group.Gap; kind++ {
		wantParts(t, "english", Affix(made(t, english()), list, kind, signs),
			group.Part{Kind: kind, Text: "x y"},
			group.Part{Kind: group.Sign, Text: "-"},
			group.Part{Kind: group.Sign, Text: "+"},
			group.Part{Kind: group.Percent, Text: "%"},
			group.Part{Kind: group.Percent, Text: "‰"},
			group.Part{Kind: group.Currency, Text: "USD"})
		wantParts(t, "other", Affix(made(t, other()), list, kind, signs),
			group.Part{Kind: kind, Text: "x y"},
			group.Part{Kind: group.Sign, Text: "−"},
			group.Part{Kind: group.Sign, Text: "plus"},
			group.Part{Kind: group.Percent, Text: "v. H."},
			group.Part{Kind: group.Percent, Text: "v. T."},
			group.Part{Kind: group.Currency, Text: "USD"})
	}
}

func TestAffixOfNothing(t *testing.T) {
	l := made(t, english())
	wantParts(t, "nil", Affix(l, nil, group.Compact, signs))
	wantParts(t, "none", Affix(l, []pattern.Piece{}, group.Compact, signs))
}

func TestAffixKeepsEveryPiece(t *testing.T) {
	l := made(t, english())
	list := []pattern.Piece{{}, {Text: "a"}, {Text: "a"}, {Kind: pattern.Minus, Text: "lost", N: 5}, {Kind: pattern.Cur, Text: "lost", N: 1}, {Kind: pattern.Cur, N: 1}, {}}
	wantParts(t, "pieces", Affix(l, list, group.Compact, signs),
		group.Part{Kind: group.Compact},
		group.Part{Kind: group.Compact, Text: "a"},
		group.Part{Kind: group.Compact, Text: "a"},
		group.Part{Kind: group.Sign, Text: "-"},
		group.Part{Kind: group.Currency, Text: "$"},
		group.Part{Kind: group.Currency, Text: "$"},
		group.Part{Kind: group.Compact})
}

func TestAffixAsksForEachCurrency(t *testing.T) {
	l := made(t, english())
	var asked []int
	cur := func(n int) string {
		asked = append(asked, n)
		return strings.Repeat("c", len(asked))
	}
	counts := []int{1, 2, 3, 4, 100, 0, -1, math.MinInt, math.MaxInt, 1}
	var list []pattern.Piece
	var want []group.Part
	for i, n := range counts {
		list = append(list, pattern.Piece{Kind: pattern.Cur, N: n}, pattern.Piece{Kind: pattern.Plus, N: n})
		want = append(want, group.Part{Kind: group.Currency, Text: strings.Repeat("c", i+1)}, group.Part{Kind: group.Sign, Text: "+"})
	}
	wantParts(t, "counts", Affix(l, list, group.Literal, cur), want...)
	if !slices.Equal(asked, counts) {
		t.Errorf("asked for %v", asked)
	}
}

func TestAffixOfKindsThatThereAreNot(t *testing.T) {
	l := made(t, english())
	for _, kind := range []pattern.Kind{-1, pattern.Cur + 1, math.MinInt, math.MaxInt} {
		wantParts(t, fmt.Sprint(kind), Affix(l, []pattern.Piece{{Kind: kind, Text: "x", N: 1}}, group.Compact, signs), group.Part{})
	}
}

// P21.3

func TestAroundOfEachSide(t *testing.T) {
	l := made(t, english())
	cases := []struct {
		pattern string
		neg     bool
		want    []group.Part
	}{
		{"0", false, nil},
		{"0", true, []group.Part{{Kind: group.Sign, Text: "-"}, {}}},
		{"+0%", false, []group.Part{{Kind: group.Sign, Text: "+"}, {}, {Kind: group.Percent, Text: "%"}}},
		{"0‰", true, []group.Part{{Kind: group.Sign, Text: "-"}, {}, {Kind: group.Percent, Text: "‰"}}},
		{"x0y", false, []group.Part{{Kind: group.Compact, Text: "x"}, {}, {Kind: group.Compact, Text: "y"}}},
		{"¤0", false, []group.Part{{Kind: group.Currency, Text: "$"}, {}}},
		{"¤¤0", false, []group.Part{{Kind: group.Currency, Text: "USD"}, {Kind: group.Gap, Text: " "}, {}}},
		{"¤¤0", true, []group.Part{{Kind: group.Sign, Text: "-"}, {Kind: group.Currency, Text: "USD"}, {Kind: group.Gap, Text: " "}, {}}},
		{"¤¤-0", false, []group.Part{{Kind: group.Currency, Text: "USD"}, {Kind: group.Sign, Text: "-"}, {}}},
		{"¤¤ 0", false, []group.Part{{Kind: group.Currency, Text: "USD"}, {Kind: group.Compact, Text: " "}, {}}},
		{"0¤¤", false, []group.Part{{}, {Kind: group.Gap, Text: " "}, {Kind: group.Currency, Text: "USD"}}},
		{"0¤", false, []group.Part{{}, {Kind: group.Currency, Text: "$"}}},
		{"0¤¤-", false, []group.Part{{}, {Kind: group.Gap, Text: " "}, {Kind: group.Currency, Text: "USD"}, {Kind: group.Sign, Text: "-"}}},
		{"0-¤¤", false, []group.Part{{}, {Kind: group.Sign, Text: "-"}, {Kind: group.Currency, Text: "USD"}}},
		{"0K¤¤", false, []group.Part{{}, {Kind: group.Compact, Text: "K"}, {Kind: group.Currency, Text: "USD"}}},
		{"¤¤x¤¤0¤¤x¤¤", false, []group.Part{{Kind: group.Currency, Text: "USD"}, {Kind: group.Compact, Text: "x"}, {Kind: group.Currency, Text: "USD"}, {Kind: group.Gap, Text: " "}, {}, {Kind: group.Gap, Text: " "}, {Kind: group.Currency, Text: "USD"}, {Kind: group.Compact, Text: "x"}, {Kind: group.Currency, Text: "USD"}}},
		{"¤0;(¤¤0)", true, []group.Part{{Kind: group.Compact, Text: "("}, {Kind: group.Currency, Text: "USD"}, {Kind: group.Gap, Text: " "}, {}, {Kind: group.Compact, Text: ")"}}},
		{"¤¤0;(¤0)", true, []group.Part{{Kind: group.Compact, Text: "("}, {Kind: group.Currency, Text: "$"}, {}, {Kind: group.Compact, Text: ")"}}},
	}
	digits := []group.Part{{Kind: group.Int, Text: "5"}, {Kind: group.Point, Text: "."}, {Kind: group.Frac, Text: "0"}}
	for _, c := range cases {
		var want []group.Part
		for _, p := range c.want {
			if p == (group.Part{}) {
				want = append(want, digits...)
			} else {
				want = append(want, p)
			}
		}
		if c.want == nil {
			want = digits
		}
		wantParts(t, c.pattern, Around(l, sides(t, c.pattern, c.neg), digits, group.Compact, signs), want...)
	}
}

func TestAroundTakesEachSidesOwnSpace(t *testing.T) {
	l := made(t, other())
	for s, want := range map[string]string{
		"¤¤0":   "7 USD|10 \u00a0|1 5",
		"¤0":    "7 $|1 5",
		"0¤¤":   "1 5|7 USD",
		"0¤":    "1 5|10 ··|7 $",
		"¤¤0¤":  "7 USD|10 \u00a0|1 5|10 ··|7 $",
		"¤0¤¤":  "7 $|1 5|7 USD",
		"-¤¤0":  "5 −|7 USD|10 \u00a0|1 5",
		"¤¤¤0":  "7 dollars|10 \u00a0|1 5",
		"0¤-":   "1 5|10 ··|7 $|5 −",
		"0'$'¤": "1 5|0 $|7 $",
	} {
		if got := named(Around(l, sides(t, s, false), number("5"), group.Literal, signs)); got != want {
			t.Errorf("%s: %s, not %s", s, got, want)
		}
	}
}

// TestAroundLooksAtTheNumbersEnds takes numbers whose two ends aren't in the same class, and of several parts, some without text.
func TestAroundLooksAtTheNumbersEnds(t *testing.T) {
	l := made(t, english())
	both := sides(t, "¤¤0¤¤", false)
	for text, want := range map[string]string{"5": "USD 5 USD", "5x": "USD 5xUSD", "x5": "USDx5 USD", "x5x": "USDx5xUSD", "": "USDUSD", "\xff5": "USD\xff5 USD", "5\xff": "USD 5\xffUSD", "٥": "USD٥USD"} {
		for cut := 0; cut <= len(text); cut++ {
			list := []group.Part{{Kind: group.Int}, {Kind: group.Int, Text: text[:cut]}, {Kind: group.Point}, {Kind: group.Frac, Text: text[cut:]}, {Kind: group.Frac}}
			if got := group.Text(Around(l, both, list, group.Literal, signs)); got != want {
				t.Errorf("%q cut at %d: %q", text, cut, got)
			}
		}
	}
}

func TestAroundOfNoNumber(t *testing.T) {
	l := made(t, other())
	wantParts(t, "no parts", Around(l, sides(t, "¤¤0¤", false), nil, group.Literal, signs), group.Part{Kind: group.Currency, Text: "USD"}, group.Part{Kind: group.Currency, Text: "$"})
	wantParts(t, "no sides", Around(l, pattern.Sides{}, nil, group.Literal, signs))
}

func TestAroundOfASignWithoutText(t *testing.T) {
	x := english()
	x.Before = table.Spacing{Cur: "[^]", Num: "[^]", Insert: "·"}
	x.After = x.Before
	l := made(t, x)
	none := func(int) string { return "" }
	wantParts(t, "no sign", Around(l, sides(t, "¤0¤", false), number("5"), group.Literal, none), group.Part{Kind: group.Currency}, group.Part{Kind: group.Int, Text: "5"}, group.Part{Kind: group.Currency})
	wrong := func(int) string { return "\xff" }
	if got := named(Around(l, sides(t, "¤0¤", false), number("5"), group.Literal, wrong)); got != "7 \xff|1 5|7 \xff" {
		t.Errorf("%q", got)
	}
}

func TestAroundOfNoInsert(t *testing.T) {
	x := english()
	x.Before.Insert, x.After.Insert = "", ""
	if got := named(Around(made(t, x), sides(t, "¤¤0¤¤", false), number("5"), group.Literal, signs)); got != "7 USD|1 5|7 USD" {
		t.Errorf("%q", got)
	}
}

// TestAroundGoesByThePartsKind: a literal counts as a currency's sign, if that is its Kind.
func TestAroundGoesByThePartsKind(t *testing.T) {
	l := made(t, english())
	s := sides(t, "A0B", false)
	for kind := group.Literal; kind <= group.Gap; kind++ {
		want := fmt.Sprintf("%d A|1 5|%d B", kind, kind)
		if kind == group.Currency {
			want = "7 A|10  |1 5|10  |7 B"
		}
		if got := named(Around(l, s, number("5"), kind, signs)); got != want {
			t.Errorf("%d: %s", kind, got)
		}
	}
}

// TestAroundOfAnySides puts Around together anew of Affix, Between and the number.
func TestAroundOfAnySides(t *testing.T) {
	r := rand.New(rand.NewSource(213))
	pieces := []pattern.Piece{{Text: "A"}, {Text: "5"}, {Kind: pattern.Minus}, {Kind: pattern.Plus}, {Kind: pattern.Percent}, {Kind: pattern.Permille}, {Kind: pattern.Cur, N: 1}, {Kind: pattern.Cur, N: 2}, {Kind: pattern.Cur, N: 3}}
	some := func() []pattern.Piece {
		var list []pattern.Piece
		for range r.Intn(4) {
			list = append(list, pieces[r.Intn(len(pieces))])
		}
		return list
	}
	isCur := func(list []pattern.Piece, i int) bool { return len(list) > 0 && list[i].Kind == pattern.Cur }
	for _, x := range []table.Table{english(), other()} {
		l := made(t, x)
		for range 5000 {
			s := pattern.Sides{Pre: some(), Suf: some()}
			v := show.Vis{Int: []string{"", "5", "1234567"}[r.Intn(3)], Frac: []string{"", "5", "04"}[r.Intn(3)]}
			digits := group.Write(l, v, 3, 0)
			want := Affix(l, s.Pre, group.Compact, signs)
			if n := len(s.Pre); isCur(s.Pre, max(n-1, 0)) {
				if gap := Between(l.Before, signs(s.Pre[n-1].N), group.Text(digits), true); gap != "" {
					want = append(want, group.Part{Kind: group.Gap, Text: gap})
				}
			}
			want = append(want, digits...)
			if isCur(s.Suf, 0) {
				if gap := Between(l.After, group.Text(digits), signs(s.Suf[0].N), false); gap != "" {
					want = append(want, group.Part{Kind: group.Gap, Text: gap})
				}
			}
			want = append(want, Affix(l, s.Suf, group.Compact, signs)...)
			wantParts(t, fmt.Sprintf("%+v", s), Around(l, s, digits, group.Compact, signs), want...)
		}
	}
}

func TestNewMemory(t *testing.T) {
	l := made(t, english())
	s := sides(t, "x¤¤0¤¤y", false)
	digits := append(make([]group.Part, 0, 20), group.Part{Kind: group.Int, Text: "5"})
	kept := sides(t, "x¤¤0¤¤y", false)
	for _, about := range []pattern.Sides{s, {}, {Pre: s.Pre}, {Suf: s.Suf}} {
		got := Around(l, about, digits, group.Literal, signs)
		for i := range got {
			got[i] = group.Part{Kind: group.Unit, Text: "turned"}
		}
		_ = append(got, group.Part{Text: "more"})
	}
	got := Affix(l, s.Pre, group.Literal, signs)
	got[0].Text = "turned"
	if !reflect.DeepEqual(s, kept) || digits[0] != (group.Part{Kind: group.Int, Text: "5"}) || digits[:2][1] != (group.Part{}) {
		t.Errorf("%+v, %+v", s, digits[:2])
	}
	wantParts(t, "again", Affix(l, s.Pre, group.Literal, signs), group.Part{Text: "x"}, group.Part{Kind: group.Currency, Text: "USD"})
}
