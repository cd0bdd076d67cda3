package valid

import (
	"fmt"
	"math"
	"math/rand"
	"reflect"
	"strings"
	"testing"

	"florin/api"
	"florin/glyph"
	"florin/rule"
	"florin/table"
)

// by is texts by category.
func by(pairs ...any) []table.Text {
	var list []table.Text
	for i := 0; i < len(pairs); i += 2 {
		list = append(list, table.Text{Cat: pairs[i].(rule.Cat), Text: pairs[i+1].(string)})
	}
	return list
}

// other is one text, of other.
func other(s string) []table.Text { return by(rule.Other, s) }

// row is a row of one text.
func row(mag int, s string) table.Row { return table.Row{Mag: mag, Texts: other(s)} }

// good is a table that is well formed, and has something in each of its fields.
func good() table.Table {
	return table.Table{
		Digits: glyph.Plain(),
		Minus:  "-", Plus: "+", Percent: "%", Permille: "‰",
		Point: ".", Comma: ",",
		MinGroup: 1,
		Decimal:  "#,##0.###", Per: "#,##0%", Money: "¤#,##0.00", Account: "¤#,##0.00;(¤#,##0.00)",
		Rules:      "one: i = 1 and v = 0",
		Short:      []table.Row{row(3, "0K"), row(4, "00K"), row(6, "0M")},
		Long:       []table.Row{{Mag: 3, Texts: by(rule.One, "0 thousand", rule.Other, "0 thousands")}, row(6, "0 million")},
		MoneyShort: []table.Row{row(3, "¤0K"), row(6, "¤0M")},
		Currencies: []table.Currency{
			{Code: "CHF", Digits: 2, CashDigits: 2, CashInc: 5},
			{Code: "USD", Symbol: "US$", Narrow: "$", Names: by(rule.One, "dollar", rule.Other, "dollars"), Digits: 2},
		},
		Units:     []table.Unit{{Name: "day", Texts: by(rule.One, "{0} day", rule.Other, "{0} days")}, {Name: "km", Texts: other("{0} km")}},
		MoneyUnit: by(rule.One, "{0} {1}", rule.Other, "{0} {1}"),
		Before:    table.Spacing{Cur: "[A-Z]", Num: "[0-9]", Insert: " "},
		After:     table.Spacing{Cur: "[A-Z]", Num: "[0-9]", Insert: " "},
	}
}

// turn makes something of a table another one.
type turn func(x *table.Table)

// want fails unless good, turned so, has that reason.
func want(t *testing.T, reason Reason, what string, do turn) {
	t.Helper()
	x := good()
	do(&x)
	if got := Check(x); got != reason {
		t.Errorf("%s: %d, not %d", what, got, reason)
	}
}

// P16.1: names

// spots of names: where they stand, and whether nothing may stand there, too.
var nameSpots = []struct {
	what   string
	reason Reason
	empty  bool
	set    func(x *table.Table, s string)
}{
	{"Minus", BadSign, false, func(x *table.Table, s string) { x.Minus = s }},
	{"Plus", BadSign, false, func(x *table.Table, s string) { x.Plus = s }},
	{"Percent", BadSign, false, func(x *table.Table, s string) { x.Percent = s }},
	{"Permille", BadSign, false, func(x *table.Table, s string) { x.Permille = s }},
	{"Symbol", BadCurrency, true, func(x *table.Table, s string) { x.Currencies[1].Symbol = s }},
	{"Narrow", BadCurrency, true, func(x *table.Table, s string) { x.Currencies[0].Narrow = s }},
	{"the first of Names", BadCurrency, false, func(x *table.Table, s string) { x.Currencies[1].Names[0].Text = s }},
	{"the last of Names", BadCurrency, false, func(x *table.Table, s string) { x.Currencies[1].Names[1].Text = s }},
	{"a unit's Name", BadUnit, false, func(x *table.Table, s string) { x.Units = x.Units[:1]; x.Units[0].Name = s }},
	{"Insert of Before", BadSpacing, true, func(x *table.Table, s string) { x.Before.Insert = s }},
	{"Insert of After", BadSpacing, true, func(x *table.Table, s string) { x.After.Insert = s }},
}

func TestNames(t *testing.T) {
	names := []string{"x", " ", "\x00", "0", ".", "{", "€", "\ufffd", "\U0010ffff", "minus", "-0,.%¤", strings.Repeat("x", 60), strings.Repeat("€", 20), strings.Repeat("😀", 15)}
	others := []string{strings.Repeat("x", 61), strings.Repeat("€", 20) + "x", strings.Repeat("x", 59) + "é", strings.Repeat("x", 1000), "\xff", "\x80", "a\xc3", "\xe2\x82", "\xc0\x80", "\xed\xa0\x80", "\xf4\x90\x80\x80", strings.Repeat("x", 59) + "\xff"}
	for _, spot := range nameSpots {
		for _, s := range names {
			want(t, Fine, fmt.Sprintf("%s %q", spot.what, s), func(x *table.Table) { spot.set(x, s) })
		}
		for _, s := range others {
			want(t, spot.reason, fmt.Sprintf("%s %q", spot.what, s), func(x *table.Table) { spot.set(x, s) })
		}
		reason := spot.reason
		if spot.empty {
			reason = Fine
		}
		want(t, reason, spot.what+" of no bytes", func(x *table.Table) { spot.set(x, "") })
	}
}

// P16.1: texts by category

// spots of texts by category: where they stand, and a text that may stand there.
var catSpots = []struct {
	what   string
	reason Reason
	empty  Reason
	text   string
	set    func(x *table.Table, list []table.Text)
}{
	{"Short", BadRow, BadRow, "00K", func(x *table.Table, list []table.Text) { x.Short[1].Texts = list }},
	{"Long", BadRow, BadRow, "0 m", func(x *table.Table, list []table.Text) { x.Long[1].Texts = list }},
	{"MoneyShort", BadRow, BadRow, "0 M¤", func(x *table.Table, list []table.Text) { x.MoneyShort[1].Texts = list }},
	{"Names", BadCurrency, Fine, "franc", func(x *table.Table, list []table.Text) { x.Currencies[0].Names = list }},
	{"a unit's Texts", BadUnit, BadUnit, "{0} day", func(x *table.Table, list []table.Text) { x.Units[0].Texts = list }},
	{"MoneyUnit", BadName, BadName, "{1} {0}", func(x *table.Table, list []table.Text) { x.MoneyUnit = list }},
}

func TestTextsByCategory(t *testing.T) {
	o := rule.Other
	rising := [][]rule.Cat{{o}, {0, o}, {1, o}, {2, o}, {3, o}, {4, o}, {1, 3, o}, {2, 3, 4, o}, {0, 1, 2, 3, 4, o}}
	wrong := [][]rule.Cat{
		{0}, {1}, {4}, {0, 1, 2, 3, 4}, {o, o}, {1, 1, o}, {2, 1, o}, {1, 2, 2, o}, {0, 1, 2, 4, 3, o}, {o, 1}, {o, 0, o}, {0, o, o}, {0, o, 1, o},
		{-1}, {-1, o}, {-2, -1, 0, 1, o}, {math.MinInt, o}, {6}, {1, 6}, {1, o, 6}, {o, 6}, {6, o}, {1, 6, o}, {math.MaxInt}, {o, math.MaxInt}, {math.MaxInt, o},
	}
	for _, spot := range catSpots {
		check := func(reason Reason, cats []rule.Cat) {
			t.Helper()
			var list []table.Text
			for _, c := range cats {
				list = append(list, table.Text{Cat: c, Text: spot.text})
			}
			want(t, reason, fmt.Sprint(spot.what, cats), func(x *table.Table) { spot.set(x, list) })
		}
		for _, cats := range rising {
			check(Fine, cats)
		}
		for _, cats := range wrong {
			check(spot.reason, cats)
		}
		check(spot.empty, nil)
		want(t, spot.empty, spot.what+", an empty list", func(x *table.Table) { spot.set(x, []table.Text{}) })
	}
}

func TestEachTextOfACategoryIsAsked(t *testing.T) {
	for _, spot := range catSpots {
		for c := range rule.Other + 1 {
			list := make([]table.Text, rule.Other+1)
			for k := range list {
				list[k] = table.Text{Cat: rule.Cat(k), Text: spot.text}
			}
			list[c].Text = "\xff"
			want(t, spot.reason, fmt.Sprint(spot.what, ", ", c), func(x *table.Table) { spot.set(x, list) })
		}
	}
}

// P16.2

func TestExampleOfTheChapter(t *testing.T) {
	if r := Check(table.Table{}); r != BadDigits {
		t.Error(r)
	}
}

func TestReasons(t *testing.T) {
	list := []Reason{Fine, BadDigits, BadSign, BadPoint, BadGroup, BadPattern, BadRules, BadRow, BadCurrency, BadUnit, BadName, BadSpacing}
	for k, r := range list {
		if int(r) != k {
			t.Errorf("reason %d is %d", k, r)
		}
	}
	if MaxMag != 100 || MaxPlaces != 20 {
		t.Error(MaxMag, MaxPlaces)
	}
}

func TestGoodIsFine(t *testing.T) { want(t, Fine, "good", func(*table.Table) {}) }

func TestDigits(t *testing.T) {
	for d := range 10 {
		for _, s := range []string{"x", "€", "٣", "\ufffd", "𝟘", " "} {
			want(t, Fine, fmt.Sprintf("digit %d %q", d, s), func(x *table.Table) { x.Digits[d] = s })
		}
		for _, s := range []string{"", "12", "\xff", "x\xff", "\xed\xa0\x80", "e\u0301", string(rune('0' + (d+1)%10))} {
			want(t, BadDigits, fmt.Sprintf("digit %d %q", d, s), func(x *table.Table) { x.Digits[d] = s })
		}
	}
	want(t, Fine, "Arabic digits", func(x *table.Table) {
		x.Digits = glyph.Set{"٠", "١", "٢", "٣", "٤", "٥", "٦", "٧", "٨", "٩"}
	})
}

func TestPoints(t *testing.T) {
	arabic := func(x *table.Table) {
		x.Digits = glyph.Set{"٠", "١", "٢", "٣", "٤", "٥", "٦", "٧", "٨", "٩"}
	}
	for what, set := range map[string]func(x *table.Table, s string){
		"Point": func(x *table.Table, s string) { x.Point, x.Comma = s, "_" },
		"Comma": func(x *table.Table, s string) { x.Point, x.Comma = "_", s },
	} {
		for _, s := range []string{".", ",", "'", " ", "\u00a0", "٫", "-", "%", "x", "\x00", "\ufffd", "😀"} {
			want(t, Fine, fmt.Sprintf("%s %q", what, s), func(x *table.Table) { set(x, s) })
		}
		for _, s := range []string{"", "..", "x.", "\xff", ".\xff", "\xed\xa0\x80", "_", "e\u0301"} {
			want(t, BadPoint, fmt.Sprintf("%s %q", what, s), func(x *table.Table) { set(x, s) })
		}
		for d := range 10 {
			plain, other := string(rune('0'+d)), string(rune('٠'+d))
			want(t, BadPoint, what+" "+plain, func(x *table.Table) { set(x, plain) })
			want(t, Fine, what+" "+other, func(x *table.Table) { set(x, other) })
			want(t, Fine, what+" "+plain+", Arabic", func(x *table.Table) { arabic(x); set(x, plain) })
			want(t, BadPoint, what+" "+other+", Arabic", func(x *table.Table) { arabic(x); set(x, other) })
		}
	}
}

func TestGroup(t *testing.T) {
	for n := 1; n <= 4; n++ {
		want(t, Fine, fmt.Sprint(n), func(x *table.Table) { x.MinGroup = n })
	}
	for _, n := range []int{0, 5, -1, 6, 100, math.MinInt, math.MaxInt} {
		want(t, BadGroup, fmt.Sprint(n), func(x *table.Table) { x.MinGroup = n })
	}
}

// wantTexts fails unless each text has that reason at a spot.
func wantTexts(t *testing.T, reason Reason, what string, set func(x *table.Table, s string), list ...string) {
	t.Helper()
	for _, s := range list {
		want(t, reason, fmt.Sprintf("%s %q", what, s), func(x *table.Table) { set(x, s) })
	}
}

func TestPatterns(t *testing.T) {
	decimal := func(x *table.Table, s string) { x.Decimal = s }
	wantTexts(t, Fine, "Decimal", decimal, "0", "#", "#,##,##0.0#", "-0+", "a0b", "0;0-", "0;(0)", "'%'0", "0'‰'", "'¤'0;'¤'0", strings.Repeat("0", 100))
	wantTexts(t, BadPattern, "Decimal", decimal, "0%", "%0", "0‰", "‰0", "¤0", "0¤¤", "0;0%", "0;%0", "0;‰0", "0;0¤", "-0;¤-0", "a%0", "0%;0", "¤0;0", "‰0;0")
	per := func(x *table.Table, s string) { x.Per = s }
	wantTexts(t, Fine, "Per", per, "0%", "%0", "0 %", "0%;0%-", "0%;%0", "%0;0%", "0%'%'", "0%'‰¤'", "-%0")
	wantTexts(t, BadPattern, "Per", per, "0", "0%%", "%0%", "%a%0", "0%;0", "0;0%", "0;0", "0%;0%%", "0%;%0%", "0%%;0%", "0%‰", "‰0%", "0‰", "0%;0%‰", "0%¤", "¤0%", "0%;0¤%", "¤0", "0'%'", "0%;0'%'")
	for what, set := range map[string]func(x *table.Table, s string){
		"Money":   func(x *table.Table, s string) { x.Money = s },
		"Account": func(x *table.Table, s string) { x.Account = s },
	} {
		wantTexts(t, Fine, what, set, "¤0", "0¤", "¤¤0", "0 ¤¤¤", strings.Repeat("¤", 49)+"0", "¤0;0¤", "¤0;-¤¤0", "¤-0", "¤0'¤'", "¤0'%‰'", "¤0;(¤0)")
		wantTexts(t, BadPattern, what, set, "0", "¤0¤", "¤-¤0", "¤a¤0", "¤¤0¤", "¤0;0", "0;¤0", "0;0", "¤0;¤0¤", "¤0¤;¤0", "¤0%", "%¤0", "¤0‰", "¤0;¤0%", "¤0;‰¤0", "¤0%;¤0", "'¤'0", "¤0;'¤'0", "0%")
	}
	for what, set := range map[string]func(x *table.Table, s string){
		"Decimal": decimal, "Per": per,
		"Money":   func(x *table.Table, s string) { x.Money = s },
		"Account": func(x *table.Table, s string) { x.Account = s },
	} {
		wantTexts(t, BadPattern, what, set, "", "x", "%", "¤", "0#", "0.", "0.#0", "0'", "0;", "¤0;", "0%;", ";0", "0;0;0", ",0", "0,", "\xff0", "0\xff", "¤0\xff%", "12", strings.Repeat("0", 101), "¤0%"+strings.Repeat("x", 97))
	}
}

func TestRules(t *testing.T) {
	set := func(x *table.Table, s string) { x.Rules = s }
	relations := "one: " + strings.Repeat("n=1 or ", 199) + "n=1"
	wantTexts(t, Fine, "Rules", set, "", " ", "other:", "one: i = 1 and v = 0; few: n % 10 = 2..4; other: @integer 0", "one: n=1 @any ¤ \xff", strings.Repeat(" ", 4000), relations)
	wantTexts(t, BadRules, "Rules", set, "one", "one:", "i = 1", "one: i = 1; one: v = 0", "one: i = 01", "one: n % 0 = 1", "one: n = 3..2", "one: n = 1234567890", "\xff", "some: n = 1", strings.Repeat(" ", 4001), relations+" or n=1")
}

// lists are where rows stand, and what their patterns have.
var lists = []struct {
	what string
	cur  string
	set  func(x *table.Table, list []table.Row)
}{
	{"Short", "", func(x *table.Table, list []table.Row) { x.Short = list }},
	{"Long", "", func(x *table.Table, list []table.Row) { x.Long = list }},
	{"MoneyShort", "¤", func(x *table.Table, list []table.Row) { x.MoneyShort = list }},
}

// wantRows fails unless rows have that reason in each of the lists; in each of their texts _ stands for what a list's patterns have.
func wantRows(t *testing.T, reason Reason, what string, rows ...table.Row) {
	t.Helper()
	for _, list := range lists {
		var own []table.Row
		for _, r := range rows {
			texts := []table.Text{}
			for _, x := range r.Texts {
				texts = append(texts, table.Text{Cat: x.Cat, Text: strings.ReplaceAll(x.Text, "_", list.cur)})
			}
			own = append(own, table.Row{Mag: r.Mag, Texts: texts})
		}
		want(t, reason, list.what+" "+what, func(x *table.Table) { list.set(x, own) })
	}
}

func TestHowManyRows(t *testing.T) {
	var rows []table.Row
	wantRows(t, Fine, "none")
	for mag := range 17 {
		rows = append(rows, row(mag, "0K_"))
		reason := Fine
		if len(rows) > 16 {
			reason = BadRow
		}
		wantRows(t, reason, fmt.Sprint(len(rows), " rows"), rows...)
	}
	wantRows(t, BadRow, "very many", make([]table.Row, 100000)...)
}

func TestMags(t *testing.T) {
	for _, mag := range []int{0, 1, 2, 50, 99, 100} {
		wantRows(t, Fine, fmt.Sprint(mag), row(mag, "0K_"))
		wantRows(t, Fine, fmt.Sprint(mag, " of a Noop"), row(mag, "0"))
	}
	for _, mag := range []int{-1, 101, -100, 1000, math.MinInt, math.MaxInt} {
		wantRows(t, BadRow, fmt.Sprint(mag), row(mag, "0K_"))
		wantRows(t, BadRow, fmt.Sprint(mag, " of a Noop"), row(mag, "0"))
		wantRows(t, BadRow, fmt.Sprint(mag, " of no texts"), table.Row{Mag: mag})
		wantRows(t, BadRow, fmt.Sprint("0 and ", mag), row(0, "0K_"), row(mag, "0K_"))
	}
	wantRows(t, Fine, "0 and 100", row(0, "0K_"), row(100, "0M_"))
	wantRows(t, BadRow, "3 and 3", row(3, "0K_"), row(3, "0K_"))
	wantRows(t, BadRow, "3 and 2", row(3, "0"), row(2, "0"))
	wantRows(t, BadRow, "3, 4 and 4", row(3, "0K_"), row(4, "00K_"), row(4, "00K_"))
	wantRows(t, BadRow, "3, 6 and 4", row(3, "0000K_"), row(6, "000000K_"), row(4, "0K_"))
}

func TestShifts(t *testing.T) {
	wantRows(t, Fine, "3, 3, 3, 6", row(3, "0K_"), row(4, "00K_"), row(5, "000K_"), row(6, "0M_"))
	wantRows(t, Fine, "0", row(3, "0000_"))
	wantRows(t, Fine, "0 at 0", row(0, "0_x"))
	wantRows(t, BadRow, "-1", row(3, "00000_"))
	wantRows(t, BadRow, "-1 at 0", row(0, "00_"))
	wantRows(t, BadRow, "-14 at 0", row(0, strings.Repeat("0", 15)+"_"))
	wantRows(t, BadRow, "3, -1", row(3, "0K_"), row(4, "000000K_"))
	wantRows(t, BadRow, "3, 2", row(3, "0K_"), row(4, "000K_"))
	wantRows(t, BadRow, "3, 6, 5", row(3, "0K_"), row(6, "0M_"), row(7, "000M_"))
	wantRows(t, Fine, "0 of a Noop, 3", row(2, "0"), row(3, "0K_"))
	wantRows(t, Fine, "0, 0 of a Noop, 0, 5", row(2, "000_"), row(3, "0"), row(4, "00000_"), row(5, "0_x"))
	wantRows(t, BadRow, "3, 0 of a Noop", row(3, "0K_"), row(4, "0"))
	wantRows(t, BadRow, "1, 0 of a Noop", row(3, "000K_"), row(100, "0"))
	wantRows(t, Fine, "Noops", row(0, "0"), row(50, "0"), row(100, "0"))
	wantRows(t, Fine, "15 noughts", row(14, strings.Repeat("0", 15)+"_"))
}

func TestTextsOfARowGoTogether(t *testing.T) {
	two := func(a, b string) table.Row { return table.Row{Mag: 5, Texts: by(rule.One, a, rule.Other, b)} }
	for _, x := range [][2]string{{"0K_", "0M_"}, {"0", "0"}, {"000K_", "k_000"}, {"00_", "00_x;(00_)"}, {"0_x;0_", "0_x"}} {
		wantRows(t, Fine, fmt.Sprint(x), two(x[0], x[1]))
	}
	for _, x := range [][2]string{{"0K_", "00K_"}, {"00K_", "0K_"}, {"0", "0K_"}, {"0K_", "0"}, {"0", "00K_"}, {"00K_", "0"}, {"0", "_0;_0"}, {"_0;_0", "0"}} {
		wantRows(t, BadRow, fmt.Sprint(x), two(x[0], x[1]))
	}
	three := func(a, b, c string) table.Row {
		return table.Row{Mag: 5, Texts: by(rule.One, a, rule.Two, b, rule.Other, c)}
	}
	wantRows(t, BadRow, "the middle one has other Zeros", three("0K_", "00K_", "0K_"))
	wantRows(t, BadRow, "only the middle one is a Noop", three("0K_", "0", "0M_"))
	wantRows(t, BadRow, "only the middle one is none", three("0", "0K_", "0"))
	wantRows(t, BadRow, "only the last one is none", three("0", "0", "0K_"))
	wantRows(t, Fine, "alike", three("0K_", "0L_", "0M_"))
	wantRows(t, Fine, "rows needn't be like one another", row(3, "0"), row(4, "00K_"), row(5, "0L_"))
}

func TestCompactPatterns(t *testing.T) {
	wantRows(t, Fine, "a long text", row(15, "0_"+strings.Repeat("x", 57)))
	wantRows(t, Fine, "quotes", row(15, "000_''"))
	for _, s := range []string{"", "x_", "_", "0", "00_", "#0_", "0.0_", "0,000_", "0_'", "0_;", ";0_", "\xff0_", "0_\xff", "1_", strings.Repeat("0", 16) + "_", "0" + strings.Repeat("x", 60) + "_"} {
		reason := BadRow
		if s == "0" || s == "00_" {
			reason = Fine
		}
		wantRows(t, reason, fmt.Sprintf("%q", s), row(20, s))
		wantRows(t, reason, fmt.Sprintf("%q as the last one", s), row(3, "0"), table.Row{Mag: 20, Texts: by(rule.One, s, rule.Other, s)})
		wantRows(t, reason, fmt.Sprintf("%q as the first one", s), row(20, s), row(40, "0_x"))
	}
	for _, s := range []string{"0%_", "%0_", "_0‰", "‰_0", "0_;_0%", "0_%;0_", "_0;_0‰"} {
		wantRows(t, BadRow, s, row(3, s))
	}
	wantRows(t, Fine, "quoted marks", row(3, "0_'%‰¤'"))
	wantRows(t, Fine, "a half of its own", row(3, "_0-;(0_)"))
}

func TestBytesOfCompactPatterns(t *testing.T) {
	for _, list := range lists {
		for size, reason := range map[int]Reason{60: Fine, 61: BadRow, 62: BadRow, 100: BadRow, 101: BadRow} {
			for _, one := range []string{"x", "€", "𝟘"} {
				s := "0" + list.cur
				for len(s)+len(one) <= size {
					s += one
				}
				s += strings.Repeat("-", size-len(s))
				want(t, reason, fmt.Sprintf("%s %q", list.what, s), func(x *table.Table) { list.set(x, []table.Row{row(15, s)}) })
			}
		}
	}
}

func TestCurrencySignsOfRows(t *testing.T) {
	for _, list := range lists[:2] {
		for _, s := range []string{"¤0K", "0K¤", "¤¤0", "0;¤0", "0K;0¤", "¤0;0"} {
			want(t, BadRow, list.what+" "+s, func(x *table.Table) { list.set(x, []table.Row{row(3, s)}) })
		}
	}
	money := lists[2]
	for _, s := range []string{"¤0", "0¤", "0K ¤", "¤¤0K", "0¤¤¤¤", "¤0;0¤", "0", "¤0;-¤0"} {
		want(t, Fine, s, func(x *table.Table) { money.set(x, []table.Row{row(3, s)}) })
	}
	for _, s := range []string{"0K", "00", "¤0¤", "¤-¤0", "0;0", "0;¤0", "¤0;0", "¤0;¤0¤", "¤0¤;¤0", "'¤'0", "¤0;'¤'0"} {
		want(t, BadRow, s, func(x *table.Table) { money.set(x, []table.Row{row(3, s)}) })
	}
}

func TestHowManyCurrenciesAndUnits(t *testing.T) {
	var curs []table.Currency
	var units []table.Unit
	for k := range 41 {
		code := string([]byte{'A', byte('A' + k/26), byte('A' + k%26)})
		curs = append(curs, table.Currency{Code: code})
		units = append(units, table.Unit{Name: code, Texts: other("{0}")})
		cur, unit := Fine, Fine
		if k == 40 {
			cur, unit = BadCurrency, BadUnit
		}
		want(t, cur, fmt.Sprint(k+1, " currencies"), func(x *table.Table) { x.Currencies = curs })
		want(t, unit, fmt.Sprint(k+1, " units"), func(x *table.Table) { x.Units = units })
	}
	want(t, Fine, "none", func(x *table.Table) { x.Currencies, x.Units = nil, nil })
	want(t, Fine, "empty lists", func(x *table.Table) { x.Currencies, x.Units = []table.Currency{}, []table.Unit{} })
	want(t, BadCurrency, "very many", func(x *table.Table) { x.Currencies = make([]table.Currency, 100000) })
	want(t, BadUnit, "very many", func(x *table.Table) { x.Units = make([]table.Unit, 100000) })
}

func TestCodes(t *testing.T) {
	set := func(x *table.Table, s string) { x.Currencies = []table.Currency{{Code: s}} }
	wantTexts(t, Fine, "Code", set, "AAA", "ZZZ", "USD", "AZA")
	wantTexts(t, BadCurrency, "Code", set, "", "U", "US", "USDX", "usd", "UsD", "US1", "US ", " US", "US$", "U\xffS", "É!", "€", "@AA", "A[A", "AA`", "AA@", "[AA", "\x00AA")
	pair := func(a, b string) turn {
		return func(x *table.Table) { x.Currencies = []table.Currency{{Code: a}, {Code: b}} }
	}
	want(t, Fine, "rising", pair("AAZ", "ABA"))
	want(t, BadCurrency, "alike", pair("USD", "USD"))
	want(t, BadCurrency, "falling", pair("ABA", "AAZ"))
	want(t, BadCurrency, "the second one", pair("AAA", "BB"))
	want(t, BadCurrency, "the first one", pair("aaa", "bbb"))
	want(t, BadCurrency, "the last two", func(x *table.Table) {
		x.Currencies = []table.Currency{{Code: "AAA"}, {Code: "CCC"}, {Code: "BBB"}}
	})
}

func TestNumbersOfCurrencies(t *testing.T) {
	for what, spot := range map[string]struct {
		most int
		set  func(c *table.Currency, n int)
	}{
		"Digits":     {20, func(c *table.Currency, n int) { c.Digits = n }},
		"CashDigits": {20, func(c *table.Currency, n int) { c.CashDigits = n }},
		"Inc":        {1000000000, func(c *table.Currency, n int) { c.Inc = n }},
		"CashInc":    {1000000000, func(c *table.Currency, n int) { c.CashInc = n }},
	} {
		for k := range 2 {
			for _, n := range []int{0, 1, 2, 19, 20, spot.most - 1, spot.most} {
				want(t, Fine, fmt.Sprint(what, n), func(x *table.Table) { spot.set(&x.Currencies[k], n) })
			}
			for _, n := range []int{-1, -20, math.MinInt, spot.most + 1, spot.most * 2, math.MaxInt} {
				want(t, BadCurrency, fmt.Sprint(what, n), func(x *table.Table) { spot.set(&x.Currencies[k], n) })
			}
		}
	}
}

func TestUnits(t *testing.T) {
	text := func(x *table.Table, s string) { x.Units[1].Texts = other(s) }
	wantTexts(t, Fine, "a unit's text", text, "{0}", "{0} km", "km {0}", "€{0}\x00", "'{0}'", strings.Repeat("x", 57)+"{0}", strings.Repeat("€", 19)+"{0}")
	wantTexts(t, BadUnit, "a unit's text", text, "", "km", "{1}", "{0}{0}", "{0}{1}", "{", "}", "{}", "{0", "{0}}", "{{0}}", "\xff{0}", "{0}\xff", strings.Repeat("x", 58)+"{0}", "{0}x"+strings.Repeat("€", 19), strings.Repeat("x", 1000)+"{0}")
	pair := func(a, b string) turn {
		return func(x *table.Table) {
			x.Units = []table.Unit{{Name: a, Texts: other("{0}")}, {Name: b, Texts: other("{0}")}}
		}
	}
	for _, x := range [][2]string{{"a", "b"}, {"a", "aa"}, {"Z", "a"}, {"z", "é"}, {"\x00", "\x00\x00"}, {"\uffff", "\U00010000"}} {
		want(t, Fine, fmt.Sprintf("%q", x), pair(x[0], x[1]))
		want(t, BadUnit, fmt.Sprintf("%q turned", x), pair(x[1], x[0]))
		want(t, BadUnit, fmt.Sprintf("%q twice", x), pair(x[1], x[1]))
	}
	want(t, BadUnit, "the first one's name", pair("", "a"))
	want(t, BadUnit, "the second one's name", pair("a", "b\xff"))
}

func TestMoneyUnit(t *testing.T) {
	text := func(x *table.Table, s string) { x.MoneyUnit[1].Text = s }
	wantTexts(t, Fine, "MoneyUnit", text, "{0}{1}", "{1} {0}", "a{0}b{1}c", strings.Repeat("x", 54)+"{1}{0}", strings.Repeat("€", 18)+"{0}{1}")
	wantTexts(t, BadName, "MoneyUnit", text, "", "x", "{0}", "{1}", "{0}{0}", "{0}{1}{0}", "{0}{1}{2}", "{2}{1}", "{0}{1", "{0}{1}}", "\xff{0}{1}", strings.Repeat("x", 55)+"{0}{1}", "{0}{1}x"+strings.Repeat("€", 18))
}

// ranges is a class of so many ranges, from a number on.
func ranges(count int, from rune) string {
	var text strings.Builder
	text.WriteString("[")
	for k := range count {
		fmt.Fprintf(&text, `\u{%x}`, int(from)+2*k)
	}
	return text.String() + "]"
}

func TestSpacing(t *testing.T) {
	for what, set := range map[string]func(x *table.Table, s string){
		"Cur of Before": func(x *table.Table, s string) { x.Before.Cur = s },
		"Num of Before": func(x *table.Table, s string) { x.Before.Num = s },
		"Cur of After":  func(x *table.Table, s string) { x.After.Cur = s },
		"Num of After":  func(x *table.Table, s string) { x.After.Num = s },
	} {
		wantTexts(t, Fine, what, set, "[]", "[^]", " [ a - z ] ", `[\]\u{10ffff}]`, "[€]", ranges(59, 1000), ranges(60, 1000))
		wantTexts(t, BadSpacing, what, set, "", " ", "[", "]", "a", "[b-a]", "[a]]", "[a", `[\u{110000}]`, "[\xff]", "[a-]", ranges(61, 1000), ranges(200, 1000))
		// It's the class that has ranges, not its text: those side by side are one, and all others of 60 are 61, unless one of the 60 stands at an end.
		wantTexts(t, Fine, what, set, "["+strings.Repeat("a", 100)+"]", "["+strings.Repeat("a-cb-d", 100)+"]", "[a"+strings.Repeat(" ", 100000)+"]", "[^"+ranges(59, 1000)[1:], "[^"+ranges(60, 0)[1:])
		wantTexts(t, BadSpacing, what, set, "[^"+ranges(60, 1000)[1:], "[^"+ranges(61, 0)[1:])
	}
}

// faults is what makes a table not well formed, by reasons.
func faults() [BadSpacing + 1][]turn {
	var list [BadSpacing + 1][]turn
	list[BadDigits] = []turn{
		func(x *table.Table) { x.Digits = glyph.Set{} },
		func(x *table.Table) { x.Digits[9] = "\xff" },
	}
	list[BadSign] = []turn{
		func(x *table.Table) { x.Minus = "" },
		func(x *table.Table) { x.Permille = strings.Repeat("‰", 21) },
	}
	list[BadPoint] = []turn{
		func(x *table.Table) { x.Point = "" },
		func(x *table.Table) { x.Comma = x.Point },
		func(x *table.Table) { x.Comma = x.Digits[5] + "x" },
	}
	list[BadGroup] = []turn{func(x *table.Table) { x.MinGroup = 0 }}
	list[BadPattern] = []turn{
		func(x *table.Table) { x.Decimal = "" },
		func(x *table.Table) { x.Per = "0" },
		func(x *table.Table) { x.Money = "0" },
		func(x *table.Table) { x.Account = "0" },
	}
	list[BadRules] = []turn{func(x *table.Table) { x.Rules = "?" }}
	list[BadRow] = []turn{
		func(x *table.Table) { x.Short = make([]table.Row, 1) },
		func(x *table.Table) { x.Long[0].Mag = -1 },
		func(x *table.Table) { x.MoneyShort = append(x.MoneyShort, x.MoneyShort...) },
	}
	list[BadCurrency] = []turn{
		func(x *table.Table) { x.Currencies = make([]table.Currency, 41) },
		func(x *table.Table) { x.Currencies[0].Code = "" },
	}
	list[BadUnit] = []turn{
		func(x *table.Table) { x.Units = make([]table.Unit, 41) },
		func(x *table.Table) { x.Units[0].Texts = nil },
	}
	list[BadName] = []turn{func(x *table.Table) { x.MoneyUnit = nil }}
	list[BadSpacing] = []turn{
		func(x *table.Table) { x.Before = table.Spacing{} },
		func(x *table.Table) { x.After.Cur = "" },
	}
	return list
}

func TestFirstReason(t *testing.T) {
	list := faults()
	for a := BadDigits; a <= BadSpacing; a++ {
		for b := a; b <= BadSpacing; b++ {
			for _, first := range list[a] {
				for _, second := range list[b] {
					want(t, a, fmt.Sprint(a, b), func(x *table.Table) { second(x); first(x) })
				}
			}
		}
	}
}

func TestFirstReasonOfMany(t *testing.T) {
	source := rand.New(rand.NewSource(16))
	list := faults()
	for range 20000 {
		x := good()
		first := Fine
		for r := BadSpacing; r > Fine; r-- {
			if source.Intn(4) == 0 {
				list[r][source.Intn(len(list[r]))](&x)
				first = r
			}
		}
		if got := Check(x); got != first {
			t.Fatalf("%+v: %d, not %d", x, got, first)
		}
	}
}

func TestTheGreatestTable(t *testing.T) {
	six := func(s string) []table.Text {
		return by(rule.Zero, s, rule.One, s, rule.Two, s, rule.Few, s, rule.Many, s, rule.Other, s)
	}
	want(t, Fine, "as much of all as there may be", func(x *table.Table) {
		x.Short, x.MoneyShort, x.Currencies, x.Units = nil, nil, nil, nil
		for k := range api.MaxRows {
			x.Short = append(x.Short, table.Row{Mag: 85 + k, Texts: six("0" + strings.Repeat("x", 59))})
			x.MoneyShort = append(x.MoneyShort, table.Row{Mag: 85 + k, Texts: six("0¤" + strings.Repeat("x", 57))})
		}
		x.Long = x.Short
		long := strings.Repeat("x", 60)
		for k := range api.MaxCur {
			code := string([]byte{'X', byte('A' + k/26), byte('A' + k%26)})
			x.Currencies = append(x.Currencies, table.Currency{Code: code, Symbol: long, Narrow: long, Names: six(long), Digits: 20, CashDigits: 20, Inc: 1000000000, CashInc: 1000000000})
			x.Units = append(x.Units, table.Unit{Name: code + long[3:], Texts: six(long[3:] + "{0}")})
		}
		x.MoneyUnit = six(long[6:] + "{0}{1}")
		x.Rules += strings.Repeat(" ", 4000-len(x.Rules))
	})
}

func TestAnythingEnds(t *testing.T) {
	for _, n := range []int{math.MinInt, -1, 0, 1, 101, math.MaxInt} {
		texts := []table.Text{{Cat: rule.Cat(n), Text: "0"}}
		rows := []table.Row{{Mag: n, Texts: texts}, {Mag: n}, {}}
		x := good()
		x.Short, x.Long, x.MoneyShort = rows, rows, rows
		if r := Check(x); r != BadRow {
			t.Errorf("%d: %d", n, r)
		}
	}
	huge := strings.Repeat("x", 1<<22)
	many := make([]table.Text, 1<<20)
	for _, do := range []turn{
		func(x *table.Table) { x.Minus = huge }, func(x *table.Table) { x.Point = huge }, func(x *table.Table) { x.Decimal = huge }, func(x *table.Table) { x.Rules = huge },
		func(x *table.Table) { x.Short[0].Texts = many }, func(x *table.Table) { x.Currencies[0].Names = many }, func(x *table.Table) { x.Units[0].Texts = many },
		func(x *table.Table) { x.MoneyUnit = many }, func(x *table.Table) { x.After.Num = "[" + huge },
	} {
		x := good()
		do(&x)
		if Check(x) == Fine {
			t.Error("something huge is fine")
		}
	}
}

func TestNothingIsTurned(t *testing.T) {
	x := good()
	Check(x)
	if !reflect.DeepEqual(x, good()) {
		t.Errorf("%+v", x)
	}
}
