package locale

import (
	"fmt"
	"math"
	"reflect"
	"slices"
	"strings"
	"testing"

	"florin/api"
	"florin/brace"
	"florin/class"
	"florin/cpat"
	"florin/eval"
	"florin/glyph"
	"florin/operand"
	"florin/pattern"
	"florin/rule"
	"florin/show"
	"florin/table"
	"florin/valid"
)

// by is texts by category.
func by(pairs ...any) []table.Text {
	var list []table.Text
	for i := 0; i < len(pairs); i += 2 {
		list = append(list, table.Text{Cat: pairs[i].(rule.Cat), Text: pairs[i+1].(string)})
	}
	return list
}

// good is a table that is well formed, and has something in each of its fields.
func good() table.Table {
	other := func(s string) []table.Text { return by(rule.Other, s) }
	return table.Table{
		Digits: glyph.Plain(),
		Minus:  "-", Plus: "+", Percent: "%", Permille: "‰",
		Point: ".", Comma: ",",
		MinGroup: 2,
		Decimal:  "#,##0.###", Per: "#,##0%", Money: "¤#,##0.00", Account: "¤#,##0.00;(¤#,##0.00)",
		Rules:      "few: n % 10 = 2..4; one: i = 1 and v = 0; many: e != 0; other: @integer 5",
		Short:      []table.Row{{Mag: 2, Texts: by(rule.One, "0", rule.Other, "0")}, {Mag: 3, Texts: by(rule.One, "0K", rule.Few, "0Ks", rule.Other, "0KK")}, {Mag: 5, Texts: other("000K")}, {Mag: 6, Texts: other("0M;(0M)")}},
		Long:       []table.Row{{Mag: 6, Texts: by(rule.One, "0 million", rule.Other, "0 millions")}},
		MoneyShort: []table.Row{{Mag: 0, Texts: other("0")}, {Mag: 7, Texts: other("¤00M")}},
		Currencies: []table.Currency{
			{Code: "CHF", Digits: 2, CashDigits: 2, CashInc: 5},
			{Code: "EUR", Symbol: "€", Names: other("euro"), Digits: 2, Inc: 1},
			{Code: "USD", Symbol: "US$", Narrow: "$", Names: by(rule.One, "dollar", rule.Many, "of dollars", rule.Other, "dollars"), Digits: 2, CashDigits: 1},
		},
		Units:     []table.Unit{{Name: "day", Texts: by(rule.Zero, "no {0} day", rule.One, "{0} day", rule.Other, "{0} days")}, {Name: "km", Texts: other("km {0}")}},
		MoneyUnit: by(rule.Two, "{1} {0}", rule.Other, "{0} {1}"),
		Before:    table.Spacing{Cur: "[A-Z]", Num: "[0-9]", Insert: " "},
		After:     table.Spacing{Cur: "[^a]", Num: "[]", Insert: "\u00a0"},
	}
}

// made is a table at hand.
func made(t *testing.T, x table.Table) *Locale {
	t.Helper()
	l, e := New(x)
	if l == nil || e != api.OK {
		t.Fatalf("error %d", e)
	}
	return l
}

// P17.1

func TestExampleOfTheChapter(t *testing.T) {
	var b ByCat[string]
	b.Put(rule.One, "day")
	b.Put(rule.Other, "days")
	if b.Get(rule.Few) != "days" || b.Get(rule.One) != "day" {
		t.Error(b)
	}
}

// beyond are numbers of no category.
var beyond = []rule.Cat{-1, -2, 6, 7, 100, math.MinInt, math.MaxInt}

func TestByCatHasNothingYet(t *testing.T) {
	var b ByCat[int]
	for c := range rule.Other + 1 {
		if b.Has(c) || b.Get(c) != 0 {
			t.Errorf("%s: %d", c, b.Get(c))
		}
	}
	for _, c := range beyond {
		if b.Has(c) || b.Get(c) != 0 {
			t.Errorf("%d: %d", c, b.Get(c))
		}
	}
}

func TestByCatOfEachSetOfCategories(t *testing.T) {
	for set := range 1 << 6 {
		var b ByCat[string]
		put := func(c rule.Cat) bool { return set>>c&1 == 1 }
		for c := range rule.Other + 1 {
			if put(c) {
				b.Put(c, c.String())
			}
		}
		rest := ""
		if put(rule.Other) {
			rest = "other"
		}
		for c := range rule.Other + 1 {
			want := rest
			if put(c) {
				want = c.String()
			}
			if b.Has(c) != put(c) || b.Get(c) != want {
				t.Errorf("%06b, %s: %v, %q, not %q", set, c, b.Has(c), b.Get(c), want)
			}
		}
		for _, c := range beyond {
			if b.Has(c) || b.Get(c) != rest {
				t.Errorf("%06b, %d: %v, %q", set, c, b.Has(c), b.Get(c))
			}
		}
	}
}

func TestByCatPutsNothingForOtherNumbers(t *testing.T) {
	for _, c := range beyond {
		var b ByCat[int]
		b.Put(c, 7)
		if b != (ByCat[int]{}) || b.Has(c) || b.Get(c) != 0 {
			t.Errorf("%d: %d", c, b.Get(c))
		}
		b.Put(rule.Other, 5)
		b.Put(c, 7)
		if b.Get(c) != 5 || b.Get(rule.Other) != 5 || b.Get(rule.Zero) != 5 {
			t.Errorf("%d: %d", c, b.Get(c))
		}
	}
}

func TestByCatWhatWasThereGoes(t *testing.T) {
	var b ByCat[[]int]
	for c := range rule.Other + 1 {
		b.Put(c, []int{1})
		b.Put(c, []int{2, 3})
		if !slices.Equal(b.Get(c), []int{2, 3}) {
			t.Error(b.Get(c))
		}
		// The zero value is something, too.
		b.Put(c, nil)
		if !b.Has(c) || b.Get(c) != nil {
			t.Error(b.Get(c))
		}
	}
	b.Put(rule.Other, []int{4})
	if b.Get(rule.One) != nil || len(b.Get(9)) != 1 {
		t.Error("nil of one isn't that of other")
	}
}

func TestCopiesOfByCatGoOnByThemselves(t *testing.T) {
	var a ByCat[int]
	a.Put(rule.One, 1)
	b := a
	b.Put(rule.One, 2)
	b.Put(rule.Other, 3)
	if a.Get(rule.One) != 1 || a.Has(rule.Other) || b.Get(rule.One) != 2 {
		t.Error(a, b)
	}
}

// P17.2

func TestErrTable(t *testing.T) {
	for want, turn := range map[valid.Reason]func(x *table.Table){
		valid.BadDigits:   func(x *table.Table) { *x = table.Table{} },
		valid.BadSign:     func(x *table.Table) { x.Plus = "" },
		valid.BadPoint:    func(x *table.Table) { x.Point = "," },
		valid.BadGroup:    func(x *table.Table) { x.MinGroup = 5 },
		valid.BadPattern:  func(x *table.Table) { x.Money = "#,##0.00" },
		valid.BadRules:    func(x *table.Table) { x.Rules = "one" },
		valid.BadRow:      func(x *table.Table) { x.MoneyShort[1].Texts = nil },
		valid.BadCurrency: func(x *table.Table) { x.Currencies[1].Code = "CHF" },
		valid.BadUnit:     func(x *table.Table) { x.Units[0].Texts = x.Units[0].Texts[:1] },
		valid.BadName:     func(x *table.Table) { x.MoneyUnit[0].Text = "{0}" },
		valid.BadSpacing:  func(x *table.Table) { x.After.Num = "[" },
	} {
		x := good()
		turn(&x)
		if got := valid.Check(x); got != want {
			t.Fatalf("reason %d, not %d", got, want)
		}
		if l, e := New(x); l != nil || e != api.ErrTable {
			t.Errorf("reason %d: error %d", want, e)
		}
		if l, e := Load(x.Encode()); l != nil || e != api.ErrTable {
			t.Errorf("reason %d, of bytes: error %d", want, e)
		}
	}
}

func TestNewReadsAll(t *testing.T) {
	x := good()
	l := made(t, x)
	if !l.Table.Same(x) || !reflect.DeepEqual(l.Table, x) {
		t.Errorf("%+v", l.Table)
	}
	for s, got := range map[string]pattern.Pattern{x.Decimal: l.Decimal, x.Per: l.Per, x.Money: l.Money, x.Account: l.Account} {
		if want, _, _ := pattern.Parse(s); !reflect.DeepEqual(got, want) || got.String() != s {
			t.Errorf("%q is %+v", s, got)
		}
	}
	if want, _, _ := rule.Parse(x.Rules); !reflect.DeepEqual(l.Rules, want) || len(want) != 4 {
		t.Errorf("%s", l.Rules)
	}
	wantSpace(t, l.Before, x.Before)
	wantSpace(t, l.After, x.After)
}

// wantSpace fails unless a space is that one.
func wantSpace(t *testing.T, got Space, x table.Spacing) {
	t.Helper()
	cur, _, _ := class.Parse(x.Cur)
	num, _, _ := class.Parse(x.Num)
	if !got.Cur.Same(cur) || !got.Num.Same(num) || got.Insert != x.Insert {
		t.Errorf("%+v, not %+v", got, x)
	}
}

func TestRows(t *testing.T) {
	x := good()
	l := made(t, x)
	wantRows(t, l.Short, x.Short, []int{0, 3, 3, 6}, []bool{true, false, false, false})
	wantRows(t, l.Long, x.Long, []int{6}, []bool{false})
	wantRows(t, l.MoneyShort, x.MoneyShort, []int{0, 6}, []bool{true, false})
}

// wantRows fails unless rows are those, with these shifts, and Noops.
func wantRows(t *testing.T, got []Row, rows []table.Row, shifts []int, noops []bool) {
	t.Helper()
	if len(got) != len(rows) {
		t.Fatalf("%d rows, not %d", len(got), len(rows))
	}
	for i, x := range got {
		if x.Mag != rows[i].Mag || x.Shift != shifts[i] || x.Noop != noops[i] {
			t.Errorf("row %d is %+v", i, x)
		}
		wantPats(t, x.Pats, rows[i].Texts)
	}
}

// wantPats fails unless compact patterns by category are those texts.
func wantPats(t *testing.T, got *ByCat[cpat.Compact], texts []table.Text) {
	t.Helper()
	for c := rule.Zero - 1; c <= rule.Other+1; c++ {
		text, own := textOf(texts, c)
		want, _, _ := cpat.Parse(text)
		if got.Has(c) != own || !reflect.DeepEqual(got.Get(c), want) {
			t.Errorf("%d: %+v, not %q", c, got.Get(c), text)
		}
	}
}

// textOf is the text for a category, or that of other, which is the last one; and whether it is the category's own.
func textOf(texts []table.Text, c rule.Cat) (string, bool) {
	for _, x := range texts {
		if x.Cat == c {
			return x.Text, true
		}
	}
	return texts[len(texts)-1].Text, false
}

func TestLoad(t *testing.T) {
	x := good()
	l, e := Load(x.Encode())
	if e != api.OK || !reflect.DeepEqual(l, made(t, x)) {
		t.Fatalf("error %d: %+v", e, l)
	}
	s := x.Encode()
	for size := range len(s) {
		if l, e := Load(s[:size]); l != nil || e != api.ErrTable {
			t.Errorf("of %d bytes: error %d", size, e)
		}
	}
	for _, s := range []string{"", "x", s + "\x00", s + s, strings.Repeat("\x00", 34), strings.Repeat("\x00", 1<<16+1), "\xff" + s} {
		if l, e := Load(s); l != nil || e != api.ErrTable {
			t.Errorf("of %d bytes: error %d", len(s), e)
		}
	}
}

func TestTableOfMoreBytesThanAreDecoded(t *testing.T) {
	x := good()
	x.After.Num = "[" + strings.Repeat(" ", 1<<16-len(x.Encode())-2) + "]"
	if s := x.Encode(); len(s) != 1<<16 {
		t.Fatalf("%d bytes", len(s))
	}
	if l, e := Load(x.Encode()); e != api.OK || !l.Table.Same(x) {
		t.Errorf("error %d", e)
	}
	x.Before.Num += " "
	if l := made(t, x); !l.Table.Same(x) {
		t.Error("another table")
	}
	if l, e := Load(x.Encode()); l != nil || e != api.ErrTable {
		t.Errorf("error %d", e)
	}
}

func TestTheLeastTable(t *testing.T) {
	x := good()
	x.Rules, x.Short, x.Long, x.MoneyShort, x.Currencies, x.Units = "", nil, nil, nil, nil, nil
	l := made(t, x)
	if !l.Table.Same(x) || len(l.Rules)+len(l.Short)+len(l.Long)+len(l.MoneyShort) != 0 {
		t.Errorf("%+v", l)
	}
	if _, ok := l.Unit("day", rule.Other); ok {
		t.Error("a unit")
	}
	if _, ok := l.Name("USD", rule.Other); ok {
		t.Error("a name")
	}
	if _, ok := l.Currency("USD"); ok {
		t.Error("a currency")
	}
	if c := l.Category(show.Vis{Int: "1"}, 0); c != rule.Other {
		t.Error(c)
	}
}

// spoil turns all numbers and texts of all lists, wherever they stand.
func spoil(v reflect.Value) {
	switch v.Kind() {
	case reflect.Struct:
		for i := range v.NumField() {
			spoil(v.Field(i))
		}
	case reflect.Slice, reflect.Array:
		for i := range v.Len() {
			spoil(v.Index(i))
		}
	default:
		v.SetZero()
	}
}

// wantAsMade fails unless a locale is as good made it.
func wantAsMade(t *testing.T, l *Locale, what string) {
	t.Helper()
	if !reflect.DeepEqual(l, made(t, good())) {
		t.Errorf("%s: the locale was turned", what)
	}
}

func TestWhatIsHandedInIsNotKept(t *testing.T) {
	x := good()
	l := made(t, x)
	if !reflect.DeepEqual(x, good()) {
		t.Error("the table was turned")
	}
	spoil(reflect.ValueOf(&x).Elem())
	wantAsMade(t, l, "turning the table")
}

func TestAnswersAreNewMemory(t *testing.T) {
	l := made(t, good())
	for _, c := range l.Table.Currencies {
		x, _ := l.Currency(c.Code)
		spoil(reflect.ValueOf(&x).Elem())
		for cat := range rule.Other + 1 {
			l.Name(c.Code, cat)
		}
	}
	for cat := range rule.Other + 1 {
		for _, name := range []string{"day", "km"} {
			b, _ := l.Unit(name, cat)
			spoil(reflect.ValueOf(&b).Elem())
		}
		b := l.MoneyUnit(cat)
		spoil(reflect.ValueOf(&b).Elem())
	}
	wantAsMade(t, l, "turning what it told")
	other := made(t, good())
	spoil(reflect.ValueOf(&other.Table).Elem())
	spoil(reflect.ValueOf(&other.Account).Elem())
	spoil(reflect.ValueOf(&other.Rules).Elem())
	spoil(reflect.ValueOf(&other.Before).Elem())
	other.Short[0].Pats.Put(rule.Other, cpat.Compact{})
	wantAsMade(t, l, "turning another locale of the same table")
}

// P17.3

// wantBrace fails unless a text with places is what layer 13 reads.
func wantBrace(t *testing.T, got brace.Brace, s string, n int) {
	t.Helper()
	want, e, _ := brace.Parse(s, n)
	if e != api.OK || !reflect.DeepEqual(got, want) || got.String() != s {
		t.Errorf("%+v, not %q", got, s)
	}
}

func TestUnit(t *testing.T) {
	x := good()
	l := made(t, x)
	for c := rule.Zero - 1; c <= rule.Other+1; c++ {
		for _, u := range x.Units {
			b, ok := l.Unit(u.Name, c)
			if !ok {
				t.Errorf("no unit %s", u.Name)
			}
			text, _ := textOf(u.Texts, c)
			wantBrace(t, b, text, 1)
		}
		for _, name := range []string{"", "d", "days", "Day", "k", "kmm", "zzz", "\xff", "USD", "{0}"} {
			if b, ok := l.Unit(name, c); ok || !reflect.DeepEqual(b, brace.Brace{}) {
				t.Errorf("unit %q is %q", name, b)
			}
		}
	}
	if b, _ := l.Unit("day", rule.Zero); b.String() != "no {0} day" {
		t.Error(b)
	}
	if b, _ := l.Unit("day", rule.Few); b.String() != "{0} days" {
		t.Error(b)
	}
}

func TestName(t *testing.T) {
	x := good()
	l := made(t, x)
	for c := rule.Zero - 1; c <= rule.Other+1; c++ {
		for _, code := range []string{"CHF", "", "usd", "USDX", "US", "ZZZ", "$", "€", "day", "\xff"} {
			if s, ok := l.Name(code, c); s != "" || ok {
				t.Errorf("name of %q: %q", code, s)
			}
		}
		for _, k := range []int{1, 2} {
			want, _ := textOf(x.Currencies[k].Names, c)
			if s, ok := l.Name(x.Currencies[k].Code, c); s != want || !ok {
				t.Errorf("name of %s for %d: %q, not %q", x.Currencies[k].Code, c, s, want)
			}
		}
	}
	if s, _ := l.Name("USD", rule.One); s != "dollar" {
		t.Error(s)
	}
	if s, _ := l.Name("USD", rule.Two); s != "dollars" {
		t.Error(s)
	}
}

func TestNamesOfAnEmptyListAreNone(t *testing.T) {
	x := good()
	x.Currencies[2].Names = []table.Text{}
	if s, ok := made(t, x).Name("USD", rule.One); s != "" || ok {
		t.Error(s)
	}
}

func TestMoneyUnit(t *testing.T) {
	x := good()
	l := made(t, x)
	for c := rule.Zero - 1; c <= rule.Other+1; c++ {
		text, _ := textOf(x.MoneyUnit, c)
		wantBrace(t, l.MoneyUnit(c), text, 2)
	}
	wantBrace(t, l.MoneyUnit(rule.Two), "{1} {0}", 2)
	wantBrace(t, l.MoneyUnit(rule.One), "{0} {1}", 2)
	wantBrace(t, l.MoneyUnit(math.MinInt), "{0} {1}", 2)
}

func TestCurrency(t *testing.T) {
	x := good()
	l := made(t, x)
	for _, want := range x.Currencies {
		if got, ok := l.Currency(want.Code); !ok || !reflect.DeepEqual(got, want) {
			t.Errorf("%s is %+v", want.Code, got)
		}
	}
	for _, code := range []string{"", "usd", "US", "USDX", "AAA", "DDD", "ZZZ", "US$", "$", "€", "euro", "\xff"} {
		if got, ok := l.Currency(code); ok || !reflect.DeepEqual(got, table.Currency{}) {
			t.Errorf("%q is %+v", code, got)
		}
	}
}

func TestAsManyCurrenciesAndUnitsAsThereMayBe(t *testing.T) {
	x := good()
	x.Currencies, x.Units = nil, nil
	for k := range 40 {
		code := string([]byte{'A', byte('A' + k/26), byte('A' + k%26)})
		x.Currencies = append(x.Currencies, table.Currency{Code: code, Names: by(rule.Other, "name of "+code), Digits: k / 2})
		x.Units = append(x.Units, table.Unit{Name: code, Texts: by(rule.Other, code+" {0}")})
	}
	l := made(t, x)
	for k, c := range x.Currencies {
		b, _ := l.Unit(c.Code, rule.Few)
		s, _ := l.Name(c.Code, rule.Few)
		got, _ := l.Currency(c.Code)
		if b.String() != c.Code+" {0}" || s != "name of "+c.Code || got.Digits != k/2 {
			t.Errorf("%s: %q, %q, %+v", c.Code, b, s, got)
		}
	}
}

func TestCategory(t *testing.T) {
	l := made(t, good())
	for _, x := range []struct {
		whole, frac string
		e           int
		want        rule.Cat
	}{
		{"1", "", 0, rule.One}, {"1", "0", 0, rule.Other}, {"", "1", 0, rule.Other}, {"2", "", 0, rule.Few}, {"12", "0", 0, rule.Few}, {"12", "5", 0, rule.Other}, {"5", "", 0, rule.Other}, {"0", "", 0, rule.Other},
		{"1", "", 3, rule.Many}, {"1", "2", 1, rule.Few}, {"0", "1", 1, rule.One}, {"1", "", -3, rule.One}, {"1", "", math.MinInt, rule.One}, {"5", "", 10000, rule.Many}, {"5", "", math.MaxInt, rule.Many},
		{"0001", "", 0, rule.One}, {"", "", 0, rule.Other},
	} {
		for _, neg := range []bool{false, true} {
			if got := l.Category(show.Vis{Neg: neg, Int: x.whole, Frac: x.frac}, x.e); got != x.want {
				t.Errorf("%s.%s by %d is %s, not %s", x.whole, x.frac, x.e, got, x.want)
			}
		}
	}
}

func TestCategoryIsPickedByTheRules(t *testing.T) {
	for _, rules := range []string{"", "other:", "zero: n = 0; one: n = 1; two: n = 2; few: n % 100 = 3..10; many: n % 100 = 11..99", "one: i = 0,1", "one: f % 10 = 1 and v != 0", "many: c != 0 and c % 3 = 0", "few: w = 2; two: t = 5"} {
		x := good()
		x.Rules = rules
		l := made(t, x)
		list, _, _ := rule.Parse(rules)
		for n := range 120 {
			for _, frac := range []string{"", "0", "1", "50", "21"} {
				for e := range 4 {
					v := show.Vis{Int: fmt.Sprint(n), Frac: frac}
					if got, want := l.Category(v, e), eval.Pick(list, operand.Of(v, e)); got != want {
						t.Fatalf("%q: %s by %d is %s, not %s", rules, v.Text(), e, got, want)
					}
				}
			}
		}
	}
}
