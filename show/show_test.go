package show

import (
	"math"
	"math/rand"
	"strings"
	"testing"

	"florin/api"
	"florin/dec"
	"florin/round"
)

// modes is all modes there are.
var modes = []round.Mode{round.HalfEven, round.HalfUp, round.HalfDown, round.Up, round.Down, round.Ceil, round.Floor}

// invalid is what digits can't be shown by.
var invalid = []Prec{
	{Mode: -1}, {Mode: 7}, {Mode: math.MaxInt}, {Mode: math.MinInt},
	{Kind: -1}, {Kind: 3}, {Kind: 3, Min: 1, Max: 1, Inc: one}, {Kind: math.MaxInt, Min: 1, Max: 1, Inc: one}, {Kind: math.MinInt, Min: 1, Max: 1, Inc: one},
	{MinInt: -1}, {MinInt: 101}, {MinInt: math.MaxInt}, {MinInt: math.MinInt}, {Kind: Sig, Min: 1, Max: 1, MinInt: 101}, {Kind: Step, Inc: one, MinInt: -1},
	{Min: -1}, {Min: -1, Max: -1}, {Min: 101, Max: 101}, {Min: 1}, {Min: 2, Max: 1}, {Max: -1}, {Max: 101}, {Min: 100, Max: 101}, {Min: 100, Max: 99}, {Max: math.MaxInt}, {Max: math.MinInt},
	{Kind: Sig}, {Kind: Sig, Max: 1}, {Kind: Sig, Max: 100}, {Kind: Sig, Min: -1, Max: 3}, {Kind: Sig, Min: 1}, {Kind: Sig, Min: 2, Max: 1}, {Kind: Sig, Min: 1, Max: 101}, {Kind: Sig, Min: 101, Max: 101}, {Kind: Sig, Min: 1, Max: -1},
	{Kind: Step}, {Kind: Step, Inc: dec.Dec{Digits: "000"}}, {Kind: Step, Inc: dec.Dec{Neg: true, Digits: "5"}}, {Kind: Step, Inc: dec.Dec{Digits: "5x"}},
	{Kind: Step, Inc: dec.Dec{Digits: "1234567891"}}, {Kind: Step, Inc: dec.Dec{Digits: "1000000001"}}, {Kind: Step, Inc: dec.Dec{Digits: "12345678910", Exp: -5}},
	{Kind: Step, Inc: dec.Dec{Digits: "5", Exp: 101}}, {Kind: Step, Inc: dec.Dec{Digits: "5", Exp: -101}}, {Kind: Step, Inc: dec.Dec{Digits: "50", Exp: 100}}, {Kind: Step, Inc: dec.Dec{Digits: "5", Exp: math.MinInt}}, {Kind: Step, Inc: dec.Dec{Digits: "5", Exp: math.MaxInt}},
	{Kind: Step, Inc: one, Min: -1}, {Kind: Step, Inc: one, Min: 101}, {Kind: Step, Inc: one, Mode: 7},
}

var one = dec.Dec{Digits: "1"}

// read is the decimal that a text is.
func read(t *testing.T, s string) dec.Dec {
	t.Helper()
	d, e := dec.Parse(s)
	if e != api.OK {
		t.Fatalf("%q is no decimal", s)
	}
	return d
}

// decimals is decimals of all sorts, not all in their normal form, and some at the bounds.
func decimals() []dec.Dec {
	list := []dec.Dec{
		{}, {Neg: true, Digits: "00", Exp: 3}, {Digits: "5x"}, one, {Neg: true, Digits: "1"}, {Digits: "0100", Exp: -1}, {Neg: true, Digits: "9995", Exp: -3}, {Digits: "1", Exp: -3}, {Neg: true, Digits: "4", Exp: -2},
		{Digits: "123", Exp: 200}, {Neg: true, Digits: "123", Exp: -200}, {Digits: "7", Exp: 30000}, {Digits: "7", Exp: -30000}, {Neg: true, Digits: "17", Exp: -30000}, {Digits: "70", Exp: 40000}, {Digits: strings.Repeat("9", 300), Exp: -150},
	}
	source := rand.New(rand.NewSource(4))
	for range 60 {
		digits := make([]byte, source.Intn(9))
		for i := range digits {
			digits[i] = "0000123455556789999"[source.Intn(19)]
		}
		list = append(list, dec.Dec{Neg: source.Intn(2) == 0, Digits: string(digits), Exp: source.Intn(13) - 8})
	}
	return list
}

// precs is ways to show digits that are Valid.
func precs() []Prec {
	list := []Prec{
		{}, {Max: 2}, {Min: 2, Max: 2}, {Min: 1, Max: 3, MinInt: 1}, {MinInt: 4}, {Min: 100, Max: 100, MinInt: 100}, {Max: 100},
		{Kind: Sig, Min: 1, Max: 1}, {Kind: Sig, Min: 1, Max: 3}, {Kind: Sig, Min: 3, Max: 3, MinInt: 1}, {Kind: Sig, Min: 2, Max: 5, MinInt: 3}, {Kind: Sig, Min: 100, Max: 100}, {Kind: Sig, Min: 1, Max: 100, MinInt: 100},
		{Kind: Step, Inc: one}, {Kind: Step, Inc: dec.Dec{Digits: "25", Exp: -2}, Min: 1, MinInt: 1}, {Kind: Step, Inc: dec.Dec{Digits: "0500"}, Min: 2, Max: -7}, {Kind: Step, Inc: dec.Dec{Digits: "3", Exp: -100}, Min: 100}, {Kind: Step, Inc: dec.Dec{Digits: "999999999", Exp: 100}},
	}
	var all []Prec
	for _, p := range list {
		for _, m := range modes {
			p.Mode = m
			all = append(all, p)
		}
	}
	return all
}

// P4.1

func TestKindsInOrder(t *testing.T) {
	if Frac != 0 || Sig != 1 || Step != 2 {
		t.Errorf("the kinds are %d, %d, %d", Frac, Sig, Step)
	}
}

func TestValid(t *testing.T) {
	good := append(precs(),
		Prec{MinInt: 0}, Prec{MinInt: 100}, Prec{Max: 0}, Prec{Max: 100}, Prec{Min: 100, Max: 100}, Prec{Min: 7, Max: 7}, Prec{Min: 6, Max: 7}, Prec{Inc: dec.Dec{Neg: true, Digits: "x"}},
		Prec{Kind: Sig, Min: 1, Max: 1}, Prec{Kind: Sig, Min: 1, Max: 100}, Prec{Kind: Sig, Min: 100, Max: 100}, Prec{Kind: Sig, Min: 2, Max: 2, MinInt: 100},
		Prec{Kind: Step, Inc: one, Max: -1}, Prec{Kind: Step, Inc: one, Max: 101}, Prec{Kind: Step, Inc: one, Max: math.MaxInt}, Prec{Kind: Step, Inc: one, Min: 5, Max: 2}, Prec{Kind: Step, Inc: one, Min: 100, MinInt: 100},
		Prec{Kind: Step, Inc: dec.Dec{Digits: "999999999"}}, Prec{Kind: Step, Inc: dec.Dec{Digits: "0001234567890000"}}, Prec{Kind: Step, Inc: dec.Dec{Digits: "1000000000"}}, Prec{Kind: Step, Inc: dec.Dec{Digits: "1" + strings.Repeat("0", 100)}},
		Prec{Kind: Step, Inc: dec.Dec{Digits: "5", Exp: 100}}, Prec{Kind: Step, Inc: dec.Dec{Digits: "5", Exp: -100}}, Prec{Kind: Step, Inc: dec.Dec{Digits: "50", Exp: -101}}, Prec{Kind: Step, Inc: dec.Dec{Digits: "50", Exp: 99}},
	)
	for _, p := range good {
		if !p.Valid() {
			t.Errorf("%+v isn't Valid", p)
		}
	}
	for _, p := range invalid {
		if p.Valid() {
			t.Errorf("%+v is Valid", p)
		}
	}
}

// P4.2

func TestRound(t *testing.T) {
	cases := []struct {
		p       Prec
		x, want string
	}{
		{Prec{Max: 2}, "1234.565", "1234.56"}, {Prec{Max: 2, Mode: round.HalfUp}, "1234.565", "1234.57"}, {Prec{Max: 0, Mode: round.Ceil}, "-1234.5", "-1234"}, {Prec{Min: 3, Max: 3}, "1.5", "1.5"}, {Prec{MinInt: 9, Max: 1}, "1.25", "1.2"},
		{Prec{Kind: Sig, Min: 1, Max: 2}, "1234.5", "1200"}, {Prec{Kind: Sig, Min: 2, Max: 2, Mode: round.Up}, "1234.5", "1300"}, {Prec{Kind: Sig, Min: 5, Max: 9}, "0.05", "0.05"}, {Prec{Kind: Sig, Min: 1, Max: 1, Mode: round.HalfDown}, "0.095", "0.09"},
		{Prec{Kind: Step, Inc: dec.Made(false, "5", -2)}, "1.03", "1.05"}, {Prec{Kind: Step, Inc: dec.Made(false, "5", -2), Mode: round.Floor}, "-1.03", "-1.05"}, {Prec{Kind: Step, Inc: dec.Dec{Digits: "0250"}, Max: 1}, "375.1", "500"},
		{Prec{}, "-0.5", "0"}, {Prec{}, "0", "0"},
	}
	for _, c := range cases {
		if got, want := c.p.Round(read(t, c.x)), read(t, c.want); got != want {
			t.Errorf("%+v: Round(%s) = %v, not %v", c.p, c.x, got, want)
		}
	}
}

func TestRoundAsTheLayerBelow(t *testing.T) {
	for _, x := range decimals() {
		for _, m := range modes {
			for n := range 101 {
				if got := (Prec{Max: n, Mode: m}).Round(x); got != round.At(x, -n, m) {
					t.Fatalf("%d digits behind the point of %v by %d: %v", n, x, m, got)
				}
				if n == 0 {
					continue
				}
				if got := (Prec{Kind: Sig, Min: 1, Max: n, Mode: m}).Round(x); got != round.Sig(x, n, m) {
					t.Fatalf("%d digits of %v by %d: %v", n, x, m, got)
				}
			}
			inc := dec.Dec{Digits: "1250", Exp: -3}
			if got := (Prec{Kind: Step, Inc: inc, Mode: m}).Round(x); got != round.Step(x, inc, m) {
				t.Fatalf("%v in steps by %d: %v", x, m, got)
			}
		}
	}
}

func TestRoundOfNoPrec(t *testing.T) {
	for _, p := range invalid {
		for _, x := range decimals() {
			if got := p.Round(x); got != (dec.Dec{}) {
				t.Fatalf("%+v: Round(%v) = %v, not 0", p, x, got)
			}
		}
	}
}

// P4.3

func TestApply(t *testing.T) {
	half, quarter := dec.Made(false, "5", -1), dec.Made(false, "25", -2)
	cases := []struct {
		p    Prec
		x    string
		want Vis
	}{
		{Prec{Min: 2, Max: 2}, "1234.5", Vis{false, "1234", "50"}}, {Prec{Max: 2}, "1234.5", Vis{false, "1234", "5"}}, {Prec{Min: 1, Max: 3}, "-1234", Vis{true, "1234", "0"}}, {Prec{Min: 1, Max: 3}, "0.12345", Vis{false, "", "123"}},
		{Prec{Max: 2}, "0.5", Vis{false, "", "5"}}, {Prec{Max: 2, MinInt: 1}, "0.5", Vis{false, "0", "5"}}, {Prec{Max: 1, MinInt: 3}, "-7.25", Vis{true, "007", "2"}}, {Prec{Max: 1, MinInt: 3}, "4567.25", Vis{false, "4567", "2"}}, {Prec{MinInt: 3}, "456", Vis{false, "456", ""}},
		{Prec{}, "0", Vis{false, "0", ""}}, {Prec{Max: 3}, "0", Vis{false, "0", ""}}, {Prec{Min: 2, Max: 2}, "0", Vis{false, "", "00"}}, {Prec{MinInt: 2}, "0", Vis{false, "00", ""}}, {Prec{MinInt: 1}, "0", Vis{false, "0", ""}}, {Prec{MinInt: 1, Min: 1, Max: 1}, "0", Vis{false, "0", "0"}},
		{Prec{Max: 1}, "-0.04", Vis{false, "0", ""}}, {Prec{Max: 1, Mode: round.Up}, "-0.04", Vis{true, "", "1"}}, {Prec{Max: 1, Min: 1}, "-0.04", Vis{false, "", "0"}}, {Prec{}, "99.5", Vis{false, "100", ""}},
		{Prec{Min: 100, Max: 100, MinInt: 100}, "1.5", Vis{false, strings.Repeat("0", 99) + "1", "5" + strings.Repeat("0", 99)}},
		{Prec{Max: 2}, "12e5", Vis{false, "1200000", ""}},
		{Prec{Kind: Sig, Min: 1, Max: 2}, "1234.5", Vis{false, "1200", ""}}, {Prec{Kind: Sig, Min: 3, Max: 3}, "1.2", Vis{false, "1", "20"}}, {Prec{Kind: Sig, Min: 3, Max: 5}, "12", Vis{false, "12", "0"}}, {Prec{Kind: Sig, Min: 3, Max: 5}, "123", Vis{false, "123", ""}}, {Prec{Kind: Sig, Min: 3, Max: 5}, "1000", Vis{false, "1000", ""}},
		{Prec{Kind: Sig, Min: 3, Max: 5}, "-1.23456", Vis{true, "1", "2346"}}, {Prec{Kind: Sig, Min: 3, Max: 3}, "0.05", Vis{false, "", "0500"}}, {Prec{Kind: Sig, Min: 1, Max: 3}, "0.05", Vis{false, "", "05"}}, {Prec{Kind: Sig, Min: 2, Max: 2}, "0.5", Vis{false, "", "50"}},
		{Prec{Kind: Sig, Min: 2, Max: 2, MinInt: 3}, "1.5", Vis{false, "001", "5"}}, {Prec{Kind: Sig, Min: 3, Max: 3, MinInt: 3}, "0.01", Vis{false, "000", "0100"}}, // noughts ahead aren't counted
		{Prec{Kind: Sig, Min: 2, Max: 2}, "9.99", Vis{false, "10", ""}}, {Prec{Kind: Sig, Min: 3, Max: 3}, "9.999", Vis{false, "10", "0"}}, {Prec{Kind: Sig, Min: 2, Max: 2}, "0.0999", Vis{false, "", "10"}}, // counted from the first digit that is shown
		{Prec{Kind: Sig, Min: 1, Max: 3}, "0", Vis{false, "0", ""}}, {Prec{Kind: Sig, Min: 2, Max: 3}, "0", Vis{false, "", "0"}}, {Prec{Kind: Sig, Min: 3, Max: 3, MinInt: 1}, "-0", Vis{false, "0", "00"}}, {Prec{Kind: Sig, Min: 100, Max: 100, MinInt: 2}, "0", Vis{false, "00", strings.Repeat("0", 99)}},
		{Prec{Kind: Step, Inc: quarter, Min: 1, MinInt: 1}, "0.9", Vis{false, "1", "0"}}, {Prec{Kind: Step, Inc: quarter, Min: 1}, "-0.7", Vis{true, "", "75"}}, {Prec{Kind: Step, Inc: quarter, Min: 3, Max: 1}, "0.7", Vis{false, "", "750"}}, {Prec{Kind: Step, Inc: half}, "0.1", Vis{false, "0", ""}}, {Prec{Kind: Step, Inc: half, Min: 2, MinInt: 2}, "-0.1", Vis{false, "00", "00"}},
		{Prec{Kind: Step, Inc: dec.Made(false, "5", 2)}, "749", Vis{false, "500", ""}},
	}
	for _, c := range cases {
		if got, e := c.p.Apply(read(t, c.x)); got != c.want || e != api.OK {
			t.Errorf("%+v: Apply(%s) = %+v, %d, not %+v", c.p, c.x, got, e, c.want)
		}
	}
}

// shownAsAsked tells what is wrong with what is shown of a decimal, by the chapter's words; nothing, if all is right.
func shownAsAsked(p Prec, x dec.Dec, v Vis) string {
	r := p.Round(x)
	whole, frac := r.Parts()
	behind, first := p.Min, len(whole)-1 // first: the place of the first digit
	if whole == "" && frac != "" {
		first = len(strings.TrimLeft(frac, "0")) - len(frac) - 1
	}
	if r.Zero() {
		first = 0
	}
	if p.Kind == Sig {
		behind = max(p.Min-first-1, 0)
	}
	switch {
	case v.Neg != (dec.Cmp(r, dec.Dec{}) < 0):
		return "the sign"
	case v.Int == "0" && v.Frac == "" && whole == "" && p.MinInt == 0:
		if frac != "" || behind != 0 {
			return "a 0 that stands for digits"
		}
		return ""
	case len(v.Int) != max(len(whole), p.MinInt) || !strings.HasSuffix(v.Int, whole) || strings.Trim(strings.TrimSuffix(v.Int, whole), "0") != "":
		return "the digits ahead of the point"
	case len(v.Frac) != max(len(frac), behind) || !strings.HasPrefix(v.Frac, frac) || strings.Trim(strings.TrimPrefix(v.Frac, frac), "0") != "":
		return "the digits behind the point"
	case v.Int == "" && v.Frac == "":
		return "no digits"
	}
	return ""
}

func TestApplyShowsWhatIsAsked(t *testing.T) {
	for _, p := range precs() {
		for _, x := range decimals() {
			v, e := p.Apply(x)
			if e != api.OK {
				t.Fatalf("%+v: Apply(%v) = %d", p, x, e)
			}
			if wrong := shownAsAsked(p, x, v); wrong != "" {
				t.Fatalf("%+v: Apply(%v) = %.60v: %s", p, x, v, wrong)
			}
		}
	}
}

func TestApplyOfNoPrec(t *testing.T) {
	for _, p := range invalid {
		for _, x := range decimals() {
			if v, e := p.Apply(x); v != (Vis{}) || e != api.ErrArg {
				t.Fatalf("%+v: Apply(%v) = %+v, %d", p, x, v, e)
			}
		}
	}
}

// P4.4

func TestValue(t *testing.T) {
	noughts := strings.Repeat("0", 30000)
	cases := []struct {
		v    Vis
		want dec.Dec
	}{
		{Vis{false, "1234", "50"}, dec.Made(false, "12345", -1)}, {Vis{true, "007", "2"}, dec.Made(true, "72", -1)}, {Vis{false, "1200", ""}, dec.Made(false, "12", 2)}, {Vis{false, "1200", "000"}, dec.Made(false, "12", 2)},
		{Vis{false, "", "0500"}, dec.Made(false, "5", -2)}, {Vis{true, "", "5"}, dec.Made(true, "5", -1)},
		{Vis{}, dec.Dec{}}, {Vis{false, "0", ""}, dec.Dec{}}, {Vis{true, "0", "00"}, dec.Dec{}}, {Vis{true, "", "000"}, dec.Dec{}},
		{Vis{false, "", noughts[1:] + "7"}, dec.Made(false, "7", -30000)}, {Vis{false, "", noughts[1:] + "7" + noughts}, dec.Made(false, "7", -30000)}, {Vis{true, "5", noughts + "000"}, dec.Made(true, "5", 0)}, {Vis{false, "10", "01" + noughts}, dec.Made(false, "1001", -2)},
		{Vis{false, "1x", "5"}, dec.Dec{}}, {Vis{false, "1", "x"}, dec.Dec{}}, {Vis{true, "1", "x00"}, dec.Dec{}}, {Vis{false, "-1", ""}, dec.Dec{}},
	}
	for _, c := range cases {
		if got := c.v.Value(); got != c.want {
			t.Errorf("Value of %.40v = %v, not %v", c.v, got, c.want)
		}
	}
}

func TestValueIsWhatWasRounded(t *testing.T) {
	for _, p := range precs() {
		for _, x := range decimals() {
			v, _ := p.Apply(x)
			if got, want := v.Value(), p.Round(x); got != want {
				t.Fatalf("%+v: Value of Apply(%v) = %v, not %v", p, x, got, want)
			}
		}
	}
}

func TestText(t *testing.T) {
	cases := []struct {
		v    Vis
		want string
	}{
		{Vis{false, "1234", "50"}, "1234.50"}, {Vis{true, "007", "2"}, "-007.2"}, {Vis{false, "1200", ""}, "1200"}, {Vis{true, "1200", ""}, "-1200"}, {Vis{false, "", "05"}, ".05"}, {Vis{true, "", "5"}, "-.5"},
		{Vis{false, "0", ""}, "0"}, {Vis{false, "0", "00"}, "0.00"}, {Vis{true, "0", ""}, "-0"}, {Vis{}, ""}, {Vis{true, "", ""}, "-"},
	}
	for _, c := range cases {
		if got := c.v.Text(); got != c.want {
			t.Errorf("Text of %+v = %q, not %q", c.v, got, c.want)
		}
	}
}

func TestTextIsRead(t *testing.T) {
	for _, p := range precs() {
		p.MinInt = max(p.MinInt, 1)
		for _, x := range decimals() {
			v, _ := p.Apply(x)
			if len(v.Int)+len(v.Frac) > api.MaxDigits {
				continue
			}
			if got := read(t, v.Text()); got != p.Round(x) {
				t.Fatalf("%+v: Text of Apply(%v), %q, is read as %v", p, x, v.Text(), got)
			}
		}
	}
}
