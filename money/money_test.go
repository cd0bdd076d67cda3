package money

import (
	"fmt"
	"math"
	"reflect"
	"testing"

	"florin/api"
	"florin/dec"
	"florin/glyph"
	"florin/locale"
	"florin/round"
	"florin/rule"
	"florin/show"
	"florin/table"
)

// names is a currency's names: of one, and of others.
func names(one, other string) []table.Text {
	return []table.Text{{Cat: rule.One, Text: one}, {Cat: rule.Other, Text: other}}
}

// currencies is a currency of each kind that there is: with and without a symbol, a narrow one, and names.
func currencies() []table.Currency {
	return []table.Currency{
		{Code: "AAA"},
		{Code: "BBB", Symbol: "b$"},
		{Code: "CCC", Narrow: "c"},
		{Code: "CHF", Digits: 2, CashDigits: 2, CashInc: 5},
		{Code: "DDD", Symbol: "d$", Narrow: "d"},
		{Code: "EEE", Names: names("ee", "ees")},
		{Code: "FFF", Symbol: "f$", Names: []table.Text{{Cat: rule.Other, Text: "effs"}}},
		{Code: "USD", Symbol: "US$", Narrow: "$", Names: names("dollar", "dollars"), Digits: 2, CashDigits: 1},
	}
}

// made is a table with these currencies at hand.
func made(t *testing.T, list ...table.Currency) *locale.Locale {
	t.Helper()
	l, e := locale.New(table.Table{
		Digits: glyph.Plain(),
		Minus:  "-", Plus: "+", Percent: "%", Permille: "‰",
		Point: ".", Comma: ",",
		MinGroup: 1,
		Decimal:  "#,##0.###", Per: "#,##0%", Money: "¤#,##0.00", Account: "¤#,##0.00;(¤#,##0.00)",
		Currencies: list,
		MoneyUnit:  []table.Text{{Cat: rule.Other, Text: "{0} {1}"}},
		Before:     table.Spacing{Cur: "[]", Num: "[]"},
		After:      table.Spacing{Cur: "[]", Num: "[]"},
	})
	if l == nil || e != api.OK {
		t.Fatalf("error %d", e)
	}
	return l
}

// unlisted is codes of which there is no currency, texts that are no codes among them.
var unlisted = []string{"XXX", "", "usd", "US", "USDX", " USD", "US$", "$", "dollar", "AAB", "\x00", "\xff", "€"}

// beyond is numbers of no sign, and of no category.
var beyond = []int{-1, -2, 6, 7, 100, math.MinInt, math.MaxInt}

func want(t *testing.T, what, got, want string) {
	t.Helper()
	if got != want {
		t.Errorf("%s: %q, not %q", what, got, want)
	}
}

// P20.1

func TestSymsInOrder(t *testing.T) {
	if Symbol != 0 || Narrow != 1 || Code != 2 || Others != 2 {
		t.Error(Symbol, Narrow, Code, Others)
	}
}

func TestSignOfEachCurrency(t *testing.T) {
	l := made(t, currencies()...)
	cases := []struct{ code, symbol, narrow string }{
		{"AAA", "AAA", "AAA"},
		{"BBB", "b$", "b$"},
		{"CCC", "CCC", "c"},
		{"CHF", "CHF", "CHF"},
		{"DDD", "d$", "d"},
		{"EEE", "EEE", "EEE"},
		{"FFF", "f$", "f$"},
		{"USD", "US$", "$"},
	}
	for _, c := range cases {
		want(t, c.code+" as Symbol", Sign(l, c.code, Symbol), c.symbol)
		want(t, c.code+" as Narrow", Sign(l, c.code, Narrow), c.narrow)
		want(t, c.code+" as Code", Sign(l, c.code, Code), c.code)
		for _, n := range append([]int{3, 4, 5}, beyond...) {
			want(t, fmt.Sprintf("%s as %d", c.code, n), Sign(l, c.code, Sym(n)), c.code)
		}
	}
}

func TestSignOfNoCurrency(t *testing.T) {
	for _, l := range []*locale.Locale{made(t), made(t, currencies()...)} {
		for _, code := range unlisted {
			for _, sym := range append([]int{0, 1, 2, 3}, beyond...) {
				want(t, fmt.Sprintf("%q as %d", code, sym), Sign(l, code, Sym(sym)), code)
			}
		}
	}
}

func TestNameOfEachCategory(t *testing.T) {
	l := made(t, currencies()...)
	for c := range rule.Other + 1 {
		ee, dollar := "ees", "dollars"
		if c == rule.One {
			ee, dollar = "ee", "dollar"
		}
		want(t, "EEE of "+c.String(), Name(l, "EEE", c), ee)
		want(t, "FFF of "+c.String(), Name(l, "FFF", c), "effs")
		want(t, "USD of "+c.String(), Name(l, "USD", c), dollar)
	}
	for _, n := range beyond {
		want(t, fmt.Sprintf("USD of %d", n), Name(l, "USD", rule.Cat(n)), "dollars")
	}
}

func TestNameOfACurrencyThatHasNone(t *testing.T) {
	l := made(t, currencies()...)
	for _, n := range append([]int{0, 1, 2, 3, 4, 5}, beyond...) {
		for _, code := range append([]string{"AAA", "BBB", "CCC", "CHF", "DDD"}, unlisted...) {
			want(t, fmt.Sprintf("%q of %d", code, n), Name(l, code, rule.Cat(n)), code)
		}
	}
}

func TestPiecesOfEachCount(t *testing.T) {
	l := made(t, currencies()...)
	codes := append([]string{"AAA", "BBB", "CCC", "CHF", "DDD", "EEE", "FFF", "USD"}, unlisted...)
	counts := []int{math.MinInt, -100, -3, -2, -1, 0, 1, 2, 3, 4, 5, 6, 100, math.MaxInt}
	for _, code := range codes {
		for _, sym := range []Sym{Symbol, Narrow, Code, Code + 1, -1} {
			for _, cat := range []rule.Cat{rule.Zero, rule.One, rule.Few, rule.Other, -1, 6} {
				for _, n := range counts {
					sign := Sign(l, code, sym)
					switch {
					case n == 2:
						sign = code
					case n == 3:
						sign = Name(l, code, cat)
					case n >= 4:
						sign = Sign(l, code, Narrow)
					}
					want(t, fmt.Sprintf("%d of %q, sign %d, %s", n, code, sym, cat), Pieces(l, code, sym, cat, n), sign)
				}
			}
		}
	}
}

func TestPiecesOfOneCurrency(t *testing.T) {
	l := made(t, currencies()...)
	want(t, "1 as Symbol", Pieces(l, "USD", Symbol, rule.One, 1), "US$")
	want(t, "1 as Narrow", Pieces(l, "USD", Narrow, rule.One, 1), "$")
	want(t, "1 as Code", Pieces(l, "USD", Code, rule.One, 1), "USD")
	want(t, "0 as Symbol", Pieces(l, "USD", Symbol, rule.One, 0), "US$")
	want(t, "2 as Symbol", Pieces(l, "USD", Symbol, rule.One, 2), "USD")
	want(t, "3 of one", Pieces(l, "USD", Symbol, rule.One, 3), "dollar")
	want(t, "3 of other", Pieces(l, "USD", Symbol, rule.Other, 3), "dollars")
	want(t, "4 as Symbol", Pieces(l, "USD", Symbol, rule.One, 4), "$")
	want(t, "4 as Code", Pieces(l, "USD", Code, rule.One, 4), "$")
	want(t, "5 without a narrow one", Pieces(l, "FFF", Code, rule.One, 5), "f$")
}

// P20.2

// written is a number as a sum of money is shown.
func written(t *testing.T, p show.Prec, x string) string {
	t.Helper()
	d, e := dec.Parse(x)
	if e != api.OK {
		t.Fatal(x, e)
	}
	v, e := p.Apply(d)
	if e != api.OK {
		t.Fatalf("%+v of %s: error %d", p, x, e)
	}
	return v.Text()
}

func TestExampleOfTheChapter(t *testing.T) {
	l := made(t, currencies()...)
	for x, shown := range map[string]string{"1.02": "1.00", "1.03": "1.05", "1.025": "1.05", "1.07": "1.05", "1.075": "1.10", "0": "0.00", "-1.03": "-1.05", "1": "1.00", "1234.5": "1234.50"} {
		want(t, x+" in cash", written(t, Prec(l, "CHF", true, round.HalfUp), x), shown)
	}
	for x, shown := range map[string]string{"1.02": "1.02", "1.025": "1.03", "0": "0.00", "1": "1.00"} {
		want(t, x, written(t, Prec(l, "CHF", false, round.HalfUp), x), shown)
	}
}

func TestPrecByDigitsAlone(t *testing.T) {
	for digits := range 21 {
		for cash := range 21 {
			l := made(t, table.Currency{Code: "ABC", Digits: digits, CashDigits: cash})
			if p := Prec(l, "ABC", false, round.Floor); p != (show.Prec{Kind: show.Frac, Min: digits, Max: digits, Mode: round.Floor, MinInt: 1}) {
				t.Errorf("%d digits: %+v", digits, p)
			}
			if p := Prec(l, "ABC", true, round.HalfEven); p != (show.Prec{Kind: show.Frac, Min: cash, Max: cash, Mode: round.HalfEven, MinInt: 1}) {
				t.Errorf("%d digits in cash: %+v", cash, p)
			}
		}
	}
}

func TestPrecByIncrements(t *testing.T) {
	cases := []struct {
		digits, inc int
		want        dec.Dec
	}{
		{0, 1, dec.Dec{Digits: "1"}},
		{0, 5, dec.Dec{Digits: "5"}},
		{0, 10, dec.Dec{Digits: "1", Exp: 1}},
		{1, 5, dec.Dec{Digits: "5", Exp: -1}},
		{2, 1, dec.Dec{Digits: "1", Exp: -2}},
		{2, 5, dec.Dec{Digits: "5", Exp: -2}},
		{2, 25, dec.Dec{Digits: "25", Exp: -2}},
		{2, 50, dec.Dec{Digits: "5", Exp: -1}},
		{2, 100, dec.Dec{Digits: "1"}},
		{2, 12345, dec.Dec{Digits: "12345", Exp: -2}},
		{20, 7, dec.Dec{Digits: "7", Exp: -20}},
		{20, 999999999, dec.Dec{Digits: "999999999", Exp: -20}},
		{20, 1000000000, dec.Dec{Digits: "1", Exp: -11}},
		{0, 1000000000, dec.Dec{Digits: "1", Exp: 9}},
	}
	for _, c := range cases {
		for mode := range round.Floor + 1 {
			step := show.Prec{Kind: show.Step, Min: c.digits, Max: c.digits, Inc: c.want, Mode: mode, MinInt: 1}
			frac := show.Prec{Kind: show.Frac, Min: 3, Max: 3, Mode: mode, MinInt: 1}
			l := made(t, table.Currency{Code: "ABC", Digits: c.digits, Inc: c.inc, CashDigits: 3}, table.Currency{Code: "XYZ", Digits: 3, CashDigits: c.digits, CashInc: c.inc})
			if p := Prec(l, "ABC", false, mode); p != step || !p.Valid() {
				t.Errorf("%d with %d digits: %+v", c.inc, c.digits, p)
			}
			if p := Prec(l, "XYZ", true, mode); p != step || !p.Valid() {
				t.Errorf("%d with %d digits in cash: %+v", c.inc, c.digits, p)
			}
			if p := Prec(l, "ABC", true, mode); p != frac {
				t.Errorf("no increment in cash: %+v", p)
			}
			if p := Prec(l, "XYZ", false, mode); p != frac {
				t.Errorf("an increment in cash alone: %+v", p)
			}
		}
	}
}

func TestPrecOfCashAndOfOthers(t *testing.T) {
	l := made(t, table.Currency{Code: "ABC", Digits: 2, Inc: 25, CashDigits: 1, CashInc: 5})
	if p := Prec(l, "ABC", false, round.Up); p != (show.Prec{Kind: show.Step, Min: 2, Max: 2, Inc: dec.Dec{Digits: "25", Exp: -2}, Mode: round.Up, MinInt: 1}) {
		t.Error(p)
	}
	if p := Prec(l, "ABC", true, round.Up); p != (show.Prec{Kind: show.Step, Min: 1, Max: 1, Inc: dec.Dec{Digits: "5", Exp: -1}, Mode: round.Up, MinInt: 1}) {
		t.Error(p)
	}
	want(t, "1.30", written(t, Prec(l, "ABC", false, round.HalfUp), "1.30"), "1.25")
	want(t, "1.30 in cash", written(t, Prec(l, "ABC", true, round.HalfUp), "1.30"), "1.5")
}

func TestPrecOfNoCurrency(t *testing.T) {
	for _, l := range []*locale.Locale{made(t), made(t, currencies()...), made(t, table.Currency{Code: "ABC", Digits: 3, Inc: 5, CashDigits: 4, CashInc: 7})} {
		for _, code := range unlisted {
			for _, cash := range []bool{false, true} {
				if p := Prec(l, code, cash, round.Ceil); p != (show.Prec{Kind: show.Frac, Min: Others, Max: Others, Mode: round.Ceil, MinInt: 1}) {
					t.Errorf("%q, %v: %+v", code, cash, p)
				}
			}
		}
	}
}

func TestPrecByAModeThatThereIsNot(t *testing.T) {
	l := made(t, currencies()...)
	for _, n := range []int{math.MinInt, -1, 7, 8, math.MaxInt} {
		for _, code := range []string{"CHF", "USD", "XXX"} {
			p := Prec(l, code, true, round.Mode(n))
			if int(p.Mode) != n || p.Valid() || p.MinInt != 1 {
				t.Errorf("%s by %d: %+v", code, n, p)
			}
		}
	}
}

func TestNothingIsTurned(t *testing.T) {
	l := made(t, currencies()...)
	for _, code := range []string{"CHF", "USD", "XXX"} {
		Sign(l, code, Narrow)
		Name(l, code, rule.One)
		Pieces(l, code, Symbol, rule.One, 3)
		Prec(l, code, true, round.Up)
	}
	if !reflect.DeepEqual(l.Table.Currencies, currencies()) {
		t.Errorf("%+v", l.Table.Currencies)
	}
}
