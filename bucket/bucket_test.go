package bucket

import (
	"fmt"
	"math"
	"math/rand"
	"slices"
	"strings"
	"testing"

	"florin/api"
	"florin/dec"
	"florin/glyph"
	"florin/locale"
	"florin/round"
	"florin/rule"
	"florin/show"
	"florin/table"
)

// modes is all modes there are; the first three are those to the nearer number.
var modes = []round.Mode{round.HalfEven, round.HalfUp, round.HalfDown, round.Up, round.Down, round.Ceil, round.Floor}

// row is a row of one text.
func row(mag int, text string) table.Row {
	return table.Row{Mag: mag, Texts: []table.Text{{Cat: rule.Other, Text: text}}}
}

// made is a table at hand with such rows.
func made(t *testing.T, short, long []table.Row) *locale.Locale {
	t.Helper()
	l, e := locale.New(table.Table{
		Digits: glyph.Plain(),
		Minus:  "-", Plus: "+", Percent: "%", Permille: "‰",
		Point: ".", Comma: ",",
		MinGroup: 1,
		Decimal:  "#,##0.###", Per: "#,##0%", Money: "¤#,##0.00", Account: "¤#,##0.00;(¤#,##0.00)",
		Rules: "one: i = 1 and v = 0; two: e = 6 and i = 2000000; few: n = 0; many: v = 1",
		Short: short, Long: long,
		MoneyShort: []table.Row{row(3, "¤0K")},
		MoneyUnit:  []table.Text{{Cat: rule.Other, Text: "{0} {1}"}},
		Before:     table.Spacing{Cur: "[]", Num: "[]"},
		After:      table.Spacing{Cur: "[]", Num: "[]"},
	})
	if l == nil || e != api.OK {
		t.Fatalf("error %d", e)
	}
	return l
}

// english is a locale with rows from thousands to millions.
func english(t *testing.T) *locale.Locale {
	t.Helper()
	return made(t, []table.Row{row(3, "0K"), row(4, "00K"), row(5, "000K"), row(6, "0M")}, []table.Row{row(6, "0 million"), row(9, "0 billion")})
}

// uneven is a locale with rows from ones on, some of which are no shorter, and with places that have no row of their own.
func uneven(t *testing.T) *locale.Locale {
	t.Helper()
	return made(t, []table.Row{row(0, "0"), row(2, "00'H'"), row(4, "0'T'"), row(7, "0000'T'"), row(8, "0'Y'"), row(100, "0'G'")}, []table.Row{row(1, "0'X'"), row(2, "0'C'")})
}

// read is the decimal that a text is.
func read(t *testing.T, s string) dec.Dec {
	t.Helper()
	d, e := dec.Parse(s)
	if e != api.OK {
		t.Fatalf("%q is no decimal", s)
	}
	return d
}

// chosen is how a number is written by rows.
func chosen(t *testing.T, l *locale.Locale, rows []locale.Row, x dec.Dec, p show.Prec) Choice {
	t.Helper()
	c, e := Choose(l, rows, x, p)
	if e != api.OK {
		t.Fatalf("%v: error %d", x, e)
	}
	return c
}

// P19.1

func TestAt(t *testing.T) {
	l := english(t)
	for mag, want := range map[int]int{math.MinInt: -1, -1: -1, 0: -1, 2: -1, 3: 0, 4: 1, 5: 2, 6: 3, 7: 3, 99: 3, math.MaxInt: 3} {
		if got := At(l.Short, mag); got != want {
			t.Errorf("at %d: %d", mag, got)
		}
	}
	for mag, want := range map[int]int{5: -1, 6: 0, 7: 0, 8: 0, 9: 1, 10: 1} {
		if got := At(l.Long, mag); got != want {
			t.Errorf("at %d: %d", mag, got)
		}
	}
	u := uneven(t)
	for mag, want := range map[int]int{-1: -1, 0: 0, 1: 0, 2: 1, 3: 1, 4: 2, 6: 2, 7: 3, 8: 4, 99: 4, 100: 5, 101: 5} {
		if got := At(u.Short, mag); got != want {
			t.Errorf("at %d: %d", mag, got)
		}
	}
	for _, mag := range []int{math.MinInt, -1, 0, 1, math.MaxInt} {
		if At(nil, mag) != -1 || At([]locale.Row{}, mag) != -1 {
			t.Errorf("there is a row at %d", mag)
		}
	}
}

func TestValue(t *testing.T) {
	cases := []struct {
		c    Choice
		want string
	}{
		{Choice{}, "0"}, {Choice{Shift: 6}, "0"}, {Choice{Shift: 3, Vis: show.Vis{Int: "1", Frac: "20"}}, "1200"}, {Choice{Shift: 6, Vis: show.Vis{Neg: true, Int: "015"}}, "-15e6"},
		{Choice{Row: -1, Vis: show.Vis{Int: "0", Frac: "05"}, Cat: rule.Other}, "5e-2"}, {Choice{Shift: 1, Vis: show.Vis{Frac: "05"}}, "5e-1"}, {Choice{Shift: -2, Vis: show.Vis{Int: "5"}}, "5e-2"},
	}
	for _, c := range cases {
		if got := c.c.Value(); got != read(t, c.want) {
			t.Errorf("%+v: %v", c.c, got)
		}
	}
	if got := (Choice{Shift: math.MaxInt, Vis: show.Vis{Int: "5"}}).Value(); got != dec.Made(false, "5", api.MaxPlace) {
		t.Error(got)
	}
	if got := (Choice{Shift: math.MinInt, Vis: show.Vis{Int: "5"}}).Value(); got != dec.Made(false, "5", -api.MaxPlace) {
		t.Error(got)
	}
}

// P19.2

func TestExampleOfTheChapter(t *testing.T) {
	l := english(t)
	for _, p := range []show.Prec{{Kind: show.Sig, Min: 1, Max: 2}, {Kind: show.Sig, Min: 1, Max: 3}} {
		c := chosen(t, l, l.Short, read(t, "999950"), p)
		if want := (Choice{Row: 3, Shift: 6, Vis: show.Vis{Int: "1"}, Cat: rule.Other}); c.Row != want.Row || c.Shift != want.Shift || c.Vis != want.Vis {
			t.Errorf("%+v", c)
		}
	}
}

func TestChoose(t *testing.T) {
	l, u := english(t), uneven(t)
	two := show.Prec{Kind: show.Sig, Min: 1, Max: 2}
	whole := show.Prec{MinInt: 1}
	cases := []struct {
		l          *locale.Locale
		rows       []locale.Row
		x          string
		p          show.Prec
		row, shift int
		text       string
		cat        rule.Cat
	}{
		{l, l.Short, "0", two, -1, 0, "0", rule.Few},
		{l, l.Short, "0.5", two, -1, 0, ".5", rule.Many},
		{l, l.Short, "1", two, -1, 0, "1", rule.One},
		{l, l.Short, "994", two, -1, 0, "990", rule.Other},
		{l, l.Short, "995", two, 0, 3, "1", rule.Other},
		{l, l.Short, "-995", two, 0, 3, "-1", rule.Other},
		{l, l.Short, "1234", two, 0, 3, "1.2", rule.Other},
		{l, l.Short, "9949", two, 0, 3, "9.9", rule.Other},
		{l, l.Short, "9950", two, 1, 3, "10", rule.Other},
		{l, l.Short, "12345", two, 1, 3, "12", rule.Other},
		{l, l.Short, "99500", two, 2, 3, "100", rule.Other},
		{l, l.Short, "994999", two, 2, 3, "990", rule.Other},
		{l, l.Short, "995000", two, 3, 6, "1", rule.Other},
		{l, l.Short, "1500000", two, 3, 6, "1.5", rule.Other},
		{l, l.Short, "2000000", two, 3, 6, "2", rule.Two},
		{l, l.Short, "-7654321098", two, 3, 6, "-7700", rule.Other},
		{l, l.Short, "1234567", show.Prec{Kind: show.Sig, Min: 3, Max: 5, Mode: round.Up}, 3, 6, "1.2346", rule.Other},
		{l, l.Short, "1000000", show.Prec{Kind: show.Sig, Min: 3, Max: 5, MinInt: 2}, 3, 6, "01.00", rule.Other},
		{l, l.Short, "999.5", whole, 0, 3, "1", rule.Other},
		{l, l.Short, "999.4", whole, -1, 0, "999", rule.Other},
		{l, l.Short, "999999.5", whole, 3, 6, "1", rule.Other},
		{l, l.Short, "1499", show.Prec{Min: 1, Max: 1}, 0, 3, "1.5", rule.Other},
		{l, l.Short, "999999", show.Prec{Mode: round.Down}, 2, 3, "999", rule.Other},
		{l, l.Short, "999001", show.Prec{Mode: round.Ceil}, 3, 6, "1", rule.Other},
		{l, l.Short, "-999001", show.Prec{Mode: round.Ceil}, 2, 3, "-999", rule.Other},
		{l, l.Short, "-999001", show.Prec{Mode: round.Floor}, 3, 6, "-1", rule.Other},
		{l, l.Long, "999999", two, 0, 6, "1", rule.Other},
		{l, l.Long, "999499999", show.Prec{Kind: show.Sig, Min: 1, Max: 3}, 0, 6, "999", rule.Other},
		{l, l.Long, "999500000", show.Prec{Kind: show.Sig, Min: 1, Max: 3}, 1, 9, "1", rule.Other},
		{l, l.MoneyShort, "1e30", two, 0, 3, "1" + strings.Repeat("0", 27), rule.Other},
		{l, nil, "1234567", two, -1, 0, "1200000", rule.Other},
		{u, u.Short, "0.04", show.Prec{Mode: round.Up, MinInt: 1}, 0, 0, "1", rule.One},
		{u, u.Short, "0.04", show.Prec{MinInt: 1}, -1, 0, "0", rule.Few},
		{u, u.Short, "99.6", whole, 1, 1, "10", rule.Other},
		{u, u.Short, "9994", whole, 1, 1, "999", rule.Other},
		{u, u.Short, "9995", whole, 2, 4, "1", rule.Other},
		{u, u.Short, "99999999", whole, 4, 8, "1", rule.Other},
		{u, u.Short, "99995000", whole, 4, 8, "1", rule.Other},
		{u, u.Short, "99994999", whole, 3, 4, "9999", rule.Other},
		{u, u.Short, "5e100", whole, 5, 100, "5", rule.Other},
	}
	for _, c := range cases {
		got := chosen(t, c.l, c.rows, read(t, c.x), c.p)
		if got.Row != c.row || got.Shift != c.shift || got.Vis.Text() != c.text || got.Cat != c.cat {
			t.Errorf("%s by %+v: %+v, %s", c.x, c.p, got, got.Vis.Text())
		}
	}
}

func TestChooseTakesNumbersInNoNormalForm(t *testing.T) {
	l := english(t)
	p := show.Prec{Kind: show.Sig, Min: 1, Max: 2}
	for _, x := range []dec.Dec{{Digits: "0012340", Exp: -1}, {Digits: "1234"}, {Digits: "12340000", Exp: -4}} {
		if got := chosen(t, l, l.Short, x, p); got.Row != 0 || got.Vis.Text() != "1.2" {
			t.Errorf("%v: %+v", x, got)
		}
	}
	for _, x := range []dec.Dec{{Neg: true, Digits: "000", Exp: 9}, {Digits: "12x4", Exp: 9}, {Exp: math.MaxInt}} {
		if got := chosen(t, l, l.Short, x, p); got.Row != -1 || got.Shift != 0 || got.Vis.Text() != "0" || got.Cat != rule.Few {
			t.Errorf("%v: %+v", x, got)
		}
	}
}

func TestChooseWrongPrecs(t *testing.T) {
	l := english(t)
	five := dec.Made(false, "5", 0)
	wrong := []show.Prec{
		{Kind: show.Step, Inc: five}, {Kind: show.Step}, {Kind: -1}, {Kind: 3}, {Kind: 3, Inc: five, Min: 1, Max: 1}, {Kind: math.MaxInt}, {Mode: 7}, {Mode: -1}, {MinInt: -1}, {MinInt: 101},
		{Min: 1}, {Max: -1}, {Max: 101}, {Min: -1}, {Kind: show.Sig}, {Kind: show.Sig, Max: 3}, {Kind: show.Sig, Min: 3, Max: 2}, {Kind: show.Sig, Min: 1, Max: 101},
	}
	for _, p := range wrong {
		for _, rows := range [][]locale.Row{nil, l.Short, l.Long} {
			for _, x := range []string{"0", "5", "999950", "-1e9"} {
				if c, e := Choose(l, rows, read(t, x), p); e != api.ErrArg || c != (Choice{}) {
					t.Errorf("%s by %+v: %+v, error %d", x, p, c, e)
				}
			}
		}
	}
}

func TestChooseByRowsOfAnyKindEnds(t *testing.T) {
	l := english(t)
	rows := []locale.Row{{Mag: math.MinInt, Shift: 50}, {Mag: 3, Shift: math.MaxInt}, {Mag: 2, Shift: math.MinInt}, {Mag: 9, Shift: -9}}
	for n := range len(rows) + 1 {
		for _, x := range []dec.Dec{{}, {Digits: "7", Exp: -api.MaxPlace}, {Neg: true, Digits: "77", Exp: -api.MaxPlace}, {Digits: "123"}, {Digits: "9999", Exp: 9}, {Digits: "7", Exp: api.MaxPlace}} {
			for _, p := range []show.Prec{{Mode: round.Up}, {Kind: show.Sig, Min: 1, Max: 2}} {
				chosen(t, l, rows[:n], x, p)
			}
		}
	}
}

// numbers is decimals of all sizes, many near the places where rows begin.
func numbers() []dec.Dec {
	var list []dec.Dec
	source := rand.New(rand.NewSource(19))
	for mag := -3; mag <= 12; mag++ {
		for _, digits := range []string{"1", "10000001", "99", "994", "995", "9949", "9950001", "9995", "999499999", "9995", "99999", "99999999999999999999", "5", "12345678901", "15", "25", "35", "4449", "249", "251"} {
			for _, neg := range []bool{false, true} {
				list = append(list, dec.Made(neg, digits, mag-len(digits)+1))
			}
		}
	}
	for range 150 {
		list = append(list, dec.Made(source.Intn(2) == 0, fmt.Sprint(source.Intn(1<<source.Intn(50))), source.Intn(9)-6))
	}
	return append(list, dec.Dec{}, dec.Made(false, "5", 100), dec.Made(true, "99999", 98), dec.Made(false, "7", -api.MaxPlace), dec.Made(true, "7", api.MaxPlace))
}

// deep is decimals with so many digits behind the point that their exponent is at its bound, or near it.
func deep() []dec.Dec {
	var list []dec.Dec
	for i, digits := range []string{"1", "1000", "1234", "4999", "9994", "9995", "999499", "99999999", "12345678901"} {
		fill := "0459"[i%4 : i%4+1]
		for _, exp := range []int{-api.MaxPlace, -api.MaxPlace + 6} {
			list = append(list, dec.Made(i%2 == 0, digits+strings.Repeat(fill, -exp-1)+"1", exp))
		}
	}
	return list
}

// ways is which digits are shown, for all modes, by both kinds.
func ways() []show.Prec {
	var list []show.Prec
	for _, p := range []show.Prec{{}, {Max: 1}, {Min: 2, Max: 3, MinInt: 1}, {Min: 100, Max: 100}, {Kind: show.Sig, Min: 1, Max: 1}, {Kind: show.Sig, Min: 1, Max: 2}, {Kind: show.Sig, Min: 3, Max: 4, MinInt: 2}, {Kind: show.Sig, Min: 1, Max: 100}} {
		for _, m := range modes {
			p.Mode = m
			list = append(list, p)
		}
	}
	return list
}

// lists is rows of all sorts.
func lists(t *testing.T) (*locale.Locale, [][]locale.Row) {
	t.Helper()
	l, u := english(t), uneven(t)
	return l, [][]locale.Row{nil, l.Short, l.Long, l.MoneyShort, u.Short, u.Long}
}

// byHand is how a number is written by rows, tried from the row of its first digit on.
func byHand(l *locale.Locale, rows []locale.Row, x dec.Dec, p show.Prec) Choice {
	mag, ok := x.Mag()
	first := -1
	for i, r := range rows {
		if ok && r.Mag <= mag {
			first = i
		}
	}
	for at := first; ; at++ {
		c := Choice{Row: at}
		if at >= 0 {
			c.Shift = rows[at].Shift
		}
		c.Vis, _ = p.Apply(x.Scale(-c.Shift))
		c.Cat = l.Category(c.Vis, c.Shift)
		shown, ok := c.Vis.Value().Scale(c.Shift).Mag()
		if at+1 >= len(rows) || !ok || shown < rows[at+1].Mag {
			return c
		}
	}
}

func TestChooseAsByHand(t *testing.T) {
	l, all := lists(t)
	list := numbers()
	for _, rows := range all {
		for _, p := range ways() {
			for _, x := range list {
				if got, want := chosen(t, l, rows, x, p), byHand(l, rows, x, p); got != want {
					t.Fatalf("%v by %+v: %+v, not %+v", x, p, got, want)
				}
			}
		}
	}
}

// P19.3

func TestShownHasItsFirstDigitInItsRow(t *testing.T) {
	l, all := lists(t)
	list := append(numbers(), deep()[:4]...)
	for _, rows := range all {
		for _, p := range ways() {
			for _, x := range list {
				c := chosen(t, l, rows, x, p)
				mag, ok := c.Value().Mag()
				if ok && At(rows, mag) != c.Row && c.Row != -1 && c.Row != len(rows)-1 {
					t.Fatalf("%v by %+v: %+v", x, p, c)
				}
			}
		}
	}
}

func TestNotLessIsShownAsNotLess(t *testing.T) {
	l, all := lists(t)
	list := append(numbers(), deep()[:4]...)
	slices.SortFunc(list, dec.Cmp)
	for _, rows := range all {
		for _, p := range ways() {
			last := chosen(t, l, rows, list[0], p)
			for i, x := range list[1:] {
				c := chosen(t, l, rows, x, p)
				if dec.Cmp(last.Value(), c.Value()) > 0 {
					t.Fatalf("%v and %v by %+v: %+v and %+v", list[i], x, p, last, c)
				}
				if x.Neg && last.Row < c.Row || !list[i].Neg && last.Row > c.Row {
					t.Fatalf("%v and %v by %+v: the rows %d and %d", list[i], x, p, last.Row, c.Row)
				}
				last = c
			}
		}
	}
}

// wantNear wants what is shown of a number to lie off it by less than one in the last place that may be shown, by half of that at most by the modes to the nearer number.
func wantNear(t *testing.T, x dec.Dec, p show.Prec, c Choice) {
	t.Helper()
	place := c.Shift - p.Max
	if p.Kind == show.Sig {
		mag, _ := x.Mag()
		place = mag - p.Max + 1
	}
	off := dec.Sub(x, c.Value()).Abs()
	if dec.Cmp(off, dec.Made(false, "1", place)) >= 0 {
		t.Fatalf("%.20s… (%d) by %+v: %+v", x.Digits, x.Exp, p, c)
	}
	if p.Mode <= round.HalfDown && dec.Cmp(off, dec.Made(false, "5", place-1)) > 0 {
		t.Fatalf("%.20s… (%d) by %+v: %+v", x.Digits, x.Exp, p, c)
	}
}

func TestShownIsNear(t *testing.T) {
	l, all := lists(t)
	list := numbers()
	for _, rows := range all {
		for _, p := range ways() {
			for _, x := range list {
				wantNear(t, x, p, chosen(t, l, rows, x, p))
			}
		}
	}
}

func TestShownIsNearAtTheBoundOfExponents(t *testing.T) {
	l, all := lists(t)
	list := deep()
	for _, rows := range all {
		for i, p := range ways() {
			for j, x := range list {
				if (i+j)%3 == 0 { // all of them would take long
					wantNear(t, x, p, chosen(t, l, rows, x, p))
				}
			}
		}
	}
}

func TestRoundedRightAtTheBoundOfExponents(t *testing.T) {
	l := english(t)
	behind := strings.Repeat("0", api.MaxPlace-1) + "1"
	cases := []struct {
		whole string
		p     show.Prec
		row   int
		want  string
	}{
		{"1500", show.Prec{Mode: round.HalfDown}, 0, "2"}, {"1500", show.Prec{Mode: round.HalfEven}, 0, "2"}, {"2500", show.Prec{Mode: round.HalfEven}, 0, "3"}, {"1000", show.Prec{Mode: round.Up}, 0, "2"}, {"1999", show.Prec{Mode: round.Down}, 0, "1"},
		{"999500", show.Prec{Mode: round.HalfDown}, 3, "1"}, {"999000", show.Prec{Mode: round.Ceil}, 3, "1"}, {"999499", show.Prec{}, 2, "999"}, {"1250000", show.Prec{Kind: show.Sig, Min: 1, Max: 2}, 3, "1.3"},
	}
	for _, c := range cases {
		x := dec.Dec{Digits: c.whole + behind, Exp: -api.MaxPlace}
		if got := chosen(t, l, l.Short, x, c.p); got.Row != c.row || got.Vis.Text() != c.want {
			t.Errorf("%s by %+v: %+v", c.whole, c.p, got)
		}
	}
}
