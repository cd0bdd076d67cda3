package dec

import (
	"math"
	"math/big"
	"math/rand"
	"regexp"
	"strings"
	"testing"

	"florin/api"
)

// notDigits is texts that aren't digits: a decimal with one of them is 0.
var notDigits = []string{"-1", "+1", " 1", "1 ", "1.5", "1e3", "12a", "a12", "/", ":", "\x00", "1\x00", "٣", "\xff", "１"}

// loose is decimals in all forms: 0 in many of them, digits that aren't digits, noughts ahead and at the end, exponents at the bounds and beyond.
func loose() []Dec {
	list := []Dec{
		{}, {Neg: true}, {Exp: 5}, {Neg: true, Digits: "000", Exp: -7}, {Digits: "0", Exp: math.MaxInt}, {Digits: "0", Exp: math.MinInt},
		{Neg: true, Digits: "1x", Exp: 3}, {Digits: "-5"},
		{Digits: "1"}, {Neg: true, Digits: "1"}, {Digits: "10"}, {Digits: "1", Exp: 1}, {Digits: "001000", Exp: -2}, {Digits: "100", Exp: -2},
		{Digits: "125", Exp: -1}, {Neg: true, Digits: "25"}, {Digits: "99", Exp: -2}, {Digits: "999", Exp: -3}, {Neg: true, Digits: "999", Exp: -3},
		{Digits: "5", Exp: 300}, {Neg: true, Digits: "5", Exp: -300}, {Digits: strings.Repeat("9", 1000), Exp: -500},
		{Digits: "7", Exp: 30000}, {Neg: true, Digits: "7", Exp: -30000}, {Digits: "70", Exp: 30001}, {Digits: "70", Exp: -30001},
		{Neg: true, Digits: "3", Exp: math.MaxInt}, {Digits: "300", Exp: math.MinInt},
	}
	source := rand.New(rand.NewSource(2))
	for range 40 {
		digits := make([]byte, source.Intn(8))
		for i := range digits {
			digits[i] = "0001234567899"[source.Intn(13)]
		}
		list = append(list, Dec{source.Intn(2) == 0, string(digits), source.Intn(13) - 6})
	}
	return list
}

// bounded is an exponent as the chapter counts it.
func bounded(exp int) int {
	switch {
	case exp < -30000:
		return -30000
	case exp > 30000:
		return 30000
	}
	return exp
}

// normal is a decimal's normal form, found nought by nought.
func normal(d Dec) Dec {
	for _, b := range []byte(d.Digits) {
		if b < '0' || b > '9' {
			return Dec{}
		}
	}
	d.Exp = bounded(d.Exp)
	for strings.HasPrefix(d.Digits, "0") {
		d.Digits = d.Digits[1:]
	}
	if d.Digits == "" {
		return Dec{}
	}
	for strings.HasSuffix(d.Digits, "0") {
		d.Digits = d.Digits[:len(d.Digits)-1]
		d.Exp = bounded(d.Exp + 1)
	}
	return d
}

// units is a decimal as a whole number of units of ten to the power of low, which is not above its exponent.
func units(t *testing.T, d Dec, low int) *big.Int {
	t.Helper()
	d = normal(d)
	if d.Digits == "" {
		return new(big.Int)
	}
	n, ok := new(big.Int).SetString(d.Digits+strings.Repeat("0", d.Exp-low), 10)
	if !ok {
		t.Fatalf("%v has no units of e%d", d, low)
	}
	if d.Neg {
		n.Neg(n)
	}
	return n
}

// ofUnits is the decimal of a whole number of units.
func ofUnits(n *big.Int, low int) Dec {
	return normal(Dec{n.Sign() < 0, new(big.Int).Abs(n).String(), low})
}

// P2.1

func TestMade(t *testing.T) {
	cases := []struct {
		neg    bool
		digits string
		exp    int
		want   Dec
	}{
		{false, "12", 0, Dec{false, "12", 0}}, {true, "12", -5, Dec{true, "12", -5}}, {false, "0012", 3, Dec{false, "12", 3}},
		{false, "1200", 3, Dec{false, "12", 5}}, {true, "0010200", -2, Dec{true, "102", 0}}, {false, "1000", -3, Dec{false, "1", 0}},
		{false, "", 0, Dec{}}, {true, "", 0, Dec{}}, {true, "0", 5, Dec{}}, {true, "0000", -5, Dec{}}, {false, "", 40000, Dec{}},
		{false, "1", 30000, Dec{false, "1", 30000}}, {false, "1", 30001, Dec{false, "1", 30000}}, {false, "1", math.MaxInt, Dec{false, "1", 30000}},
		{true, "1", -30000, Dec{true, "1", -30000}}, {true, "1", -30001, Dec{true, "1", -30000}}, {true, "1", math.MinInt, Dec{true, "1", -30000}},
		{false, "10", 29999, Dec{false, "1", 30000}}, {false, "100", 29999, Dec{false, "1", 30000}}, {false, "10", 30000, Dec{false, "1", 30000}},
		{false, "100", math.MaxInt, Dec{false, "1", 30000}},
		{false, "10", -30001, Dec{false, "1", -29999}}, {false, "100", -40000, Dec{false, "1", -29998}}, {false, "1000", math.MinInt, Dec{false, "1", -29997}},
		{false, "1" + strings.Repeat("0", 60000), -30000, Dec{false, "1", 30000}},
		{false, "1" + strings.Repeat("0", 60001), -30000, Dec{false, "1", 30000}},
		{false, "1" + strings.Repeat("0", 60001), math.MinInt, Dec{false, "1", 30000}},
		{false, "1" + strings.Repeat("0", 59999), math.MinInt, Dec{false, "1", 29999}},
	}
	for _, c := range cases {
		if got := Made(c.neg, c.digits, c.exp); got != c.want {
			t.Errorf("Made(%v, %.20q, %d) = %#v, not %#v", c.neg, c.digits, c.exp, got, c.want)
		}
		if got := (Dec{c.neg, c.digits, c.exp}).Norm(); got != c.want {
			t.Errorf("Norm of %v, %.20q, %d = %#v, not %#v", c.neg, c.digits, c.exp, got, c.want)
		}
	}
}

func TestMadeOfTextsThatAreNotDigits(t *testing.T) {
	for _, s := range notDigits {
		for _, exp := range []int{math.MinInt, -1, 0, 1, math.MaxInt} {
			d := Dec{true, s, exp}
			if Made(true, s, exp) != (Dec{}) || d.Norm() != (Dec{}) || !d.Zero() {
				t.Errorf("%#v isn't 0", d)
			}
		}
	}
}

func TestNorm(t *testing.T) {
	for _, d := range loose() {
		want := normal(d)
		if got := d.Norm(); got != want || got.Norm() != want || Made(d.Neg, d.Digits, d.Exp) != want {
			t.Errorf("Norm of %#v = %#v, not %#v", d, got, want)
		}
	}
}

func TestZero(t *testing.T) {
	for _, d := range loose() {
		if got, want := d.Zero(), normal(d) == (Dec{}); got != want {
			t.Errorf("Zero of %#v = %v", d, got)
		}
	}
	for _, d := range []Dec{{}, {Neg: true, Digits: "00", Exp: 9}, {Digits: "1 "}, {Exp: 1}} {
		if !d.Zero() {
			t.Errorf("%#v isn't 0", d)
		}
	}
	for _, d := range []Dec{{Digits: "1", Exp: math.MinInt}, {Neg: true, Digits: "0010"}} {
		if d.Zero() {
			t.Errorf("%#v is 0", d)
		}
	}
}

func TestCallsTakeDecimalsAsTheirNorm(t *testing.T) {
	for _, d := range loose() {
		n := normal(d)
		whole, frac := d.Parts()
		wholeN, fracN := n.Parts()
		mag, ok := d.Mag()
		magN, okN := n.Mag()
		if d.String() != n.String() || d.Plain() != n.Plain() || whole != wholeN || frac != fracN || mag != magN || ok != okN {
			t.Errorf("%#v isn't told as its Norm", d)
		}
		if d.Abs() != n.Abs() || d.Minus() != n.Minus() || d.Scale(3) != n.Scale(3) || d.Zero() != n.Zero() {
			t.Errorf("%#v isn't turned as its Norm", d)
		}
		if other := (Dec{true, "0130", -2}); Add(d, other) != Add(n, other) || Sub(other, d) != Sub(other, n) || Cmp(d, other) != Cmp(n, other) || Cmp(d, n) != 0 {
			t.Errorf("%#v isn't taken as its Norm", d)
		}
	}
}

// P2.2

func TestParse(t *testing.T) {
	cases := map[string]Dec{
		"0": {}, "-0": {}, "-0.00": {}, "0e5": {}, "-000.000e-10000": {}, "0e10000": {},
		"7": {false, "7", 0}, "007": {false, "7", 0}, "-7": {true, "7", 0}, "100": {false, "1", 2},
		"-12.50e3": {true, "125", 2}, "1.5E-2": {false, "15", -3}, "1.5E+2": {false, "15", 1}, "12.34": {false, "1234", -2},
		"0.001": {false, "1", -3}, "1e0": {false, "1", 0}, "1e-0": {false, "1", 0}, "1e+00": {false, "1", 0}, "1.0": {false, "1", 0},
		"00.10": {false, "1", -1}, "1e10000": {false, "1", 10000}, "-1e-10000": {true, "1", -10000}, "1e+10000": {false, "1", 10000},
		"1e00000000000000000000000010000": {false, "1", 10000}, "1e-00000000000000000000000010000": {false, "1", -10000},
		"0.1e-10000":                                                               {false, "1", -10001},
		strings.Repeat("9", 1000):                                                  {false, strings.Repeat("9", 1000), 0},
		strings.Repeat("9", 1000) + "e10":                                          {false, strings.Repeat("9", 1000), 10},
		"-0." + strings.Repeat("9", 999):                                           {true, strings.Repeat("9", 999), -999},
		"0." + strings.Repeat("0", 998) + "1e-10000":                               {false, "1", -10999},
		"1" + strings.Repeat("0", 999) + "e10000":                                  {false, "1", 10999},
		strings.Repeat("0", 999) + "5e10":                                          {false, "5", 10},
		strings.Repeat("1", 500) + "." + strings.Repeat("1", 500):                  {false, strings.Repeat("1", 1000), -500},
		strings.Repeat("1", 500) + "." + strings.Repeat("0", 500) + "e00000000001": {false, strings.Repeat("1", 500), 1},
	}
	for s, want := range cases {
		if got, e := Parse(s); got != want || e != api.OK {
			t.Errorf("Parse(%.40q) = %#v, %d, not %#v", s, got, e, want)
		}
	}
}

func TestParseOfIllFormedTexts(t *testing.T) {
	long, far := strings.Repeat("1", 1001), "99999999999999999999"
	texts := []string{
		"", "-", "+", "+1", "--1", "-+1", " 1", "1 ", "1\n", "- 1", ".", ".5", "-.5", "1.", "-1.", "1.2.3", "1..2", "1.e5", ".e5", "e", "e5", "-e5",
		"1e", "1E", "1e+", "1e-", "1e+-5", "1e--5", "1e 5", "1e5.", "1e5.0", "1e.5", "1e5e5", "1eE5", "1e5 ", "1x", "x1", "0x1", "1_000", "1,5", "1-", "1-5",
		"NaN", "Inf", "-Inf", "٣", "1٣", "1e٣", "１", "−1", "1\x00", "\xff", "1\xff", "1.\xff", "1e\xff", "1e5\xff",
		long + "x", long + ".", "." + long, "+" + long, long + "e", long + "e+", long + "." + long + ".1", long + "e5x", "x" + long,
		"1.e" + far, "1e" + far + "x", "1e" + far + ".5", "1e+-" + far, "1xe" + far, "e" + far, long + ".e" + far, "--" + long + "e" + far,
	}
	for _, s := range texts {
		if got, e := Parse(s); got != (Dec{}) || e != api.ErrForm {
			t.Errorf("Parse(%.40q) = %#v, %d", s, got, e)
		}
	}
}

func TestParseOfLongTexts(t *testing.T) {
	texts := []string{
		strings.Repeat("1", 1001), "-" + strings.Repeat("1", 1001), strings.Repeat("0", 1001), "0." + strings.Repeat("0", 1000),
		strings.Repeat("0", 1000) + "1", "0." + strings.Repeat("1", 1000), strings.Repeat("1", 1000) + ".0", strings.Repeat("1", 501) + "." + strings.Repeat("1", 500),
		strings.Repeat("1", 1001) + "e-1000", strings.Repeat("1", 100000),
		"1e10001", "1E+10001", "1e-10001", "0e10001", "0e-10001", "-0.0e10001", "0.00001e10001", "1000e-10001", "1e00010001", "1e-00010001",
		"1e99999999999999999999", "1e-99999999999999999999", "1e18446744073709551616", "1e-18446744073709551616", "1e1000000000000000000", "1e" + strings.Repeat("9", 100000),
		strings.Repeat("1", 1001) + "e10001",
	}
	for _, s := range texts {
		if got, e := Parse(s); got != (Dec{}) || e != api.ErrLong {
			t.Errorf("Parse(%.40q) = %#v, %d", s, got, e)
		}
	}
}

// TestParseOfAllShortTexts holds all texts of a few bytes against a regular expression, and their values against math/big.
func TestParseOfAllShortTexts(t *testing.T) {
	form := regexp.MustCompile(`^-?[0-9]+(\.[0-9]+)?([eE][+-]?[0-9]+)?$`)
	var walk func(s string, more int)
	walk = func(s string, more int) {
		d, e := Parse(s)
		if !form.MatchString(s) {
			if d != (Dec{}) || e != api.ErrForm {
				t.Errorf("Parse(%q) = %#v, %d", s, d, e)
			}
		} else if want, ok := new(big.Rat).SetString(s); !ok {
			t.Errorf("%q has no value", s)
		} else if got, ok := new(big.Rat).SetString(d.String()); !ok || got.Cmp(want) != 0 || d != normal(d) || e != api.OK {
			t.Errorf("Parse(%q) = %#v, %d", s, d, e)
		}
		if more > 0 {
			for _, b := range "-+.eE03x" {
				walk(s+string(b), more-1)
			}
		}
	}
	walk("", 6)
}

// P2.3

func TestTexts(t *testing.T) {
	zeros := strings.Repeat("0", 30000)
	cases := []struct {
		d                        Dec
		text, whole, frac, plain string
	}{
		{Dec{}, "0", "", "", "0"}, {Dec{true, "000", 4}, "0", "", "", "0"}, {Dec{true, "1x", -4}, "0", "", "", "0"},
		{Dec{false, "7", 0}, "7", "7", "", "7"}, {Dec{true, "7", 0}, "-7", "7", "", "-7"}, {Dec{true, "125", 2}, "-125e2", "12500", "", "-12500"},
		{Dec{false, "0100", 0}, "1e2", "100", "", "100"}, {Dec{false, "1", 1}, "1e1", "10", "", "10"},
		{Dec{false, "1234", -2}, "1234e-2", "12", "34", "12.34"}, {Dec{false, "1234", -3}, "1234e-3", "1", "234", "1.234"},
		{Dec{true, "1234", -4}, "-1234e-4", "", "1234", "-0.1234"}, {Dec{false, "1234", -5}, "1234e-5", "", "01234", "0.01234"},
		{Dec{false, "1", -3}, "1e-3", "", "001", "0.001"}, {Dec{false, "12500", -3}, "125e-1", "12", "5", "12.5"}, {Dec{false, "5000", -3}, "5", "5", "", "5"},
		{Dec{false, "10203", -2}, "10203e-2", "102", "03", "102.03"},
		{Dec{false, "5", 30000}, "5e30000", "5" + zeros, "", "5" + zeros}, {Dec{true, "5", 99999}, "-5e30000", "5" + zeros, "", "-5" + zeros},
		{Dec{false, "5", -30000}, "5e-30000", "", zeros[1:] + "5", "0." + zeros[1:] + "5"}, {Dec{true, "5", -99999}, "-5e-30000", "", zeros[1:] + "5", "-0." + zeros[1:] + "5"},
		{Dec{false, "5" + zeros + "5", -30000}, "5" + zeros + "5e-30000", "50", zeros[1:] + "5", "50." + zeros[1:] + "5"},
	}
	for _, c := range cases {
		if got := c.d.String(); got != c.text {
			t.Errorf("String of %.40q = %.40q, not %.40q", c.d.Digits, got, c.text)
		}
		if whole, frac := c.d.Parts(); whole != c.whole || frac != c.frac {
			t.Errorf("Parts of %.40q = %.40q, %.40q, not %.40q, %.40q", c.text, whole, frac, c.whole, c.frac)
		}
		if got := c.d.Plain(); got != c.plain {
			t.Errorf("Plain of %.40q = %.40q, not %.40q", c.text, got, c.plain)
		}
	}
}

func TestTextsAreReadAsTheSameNumber(t *testing.T) {
	for _, d := range loose() {
		n := d.Norm()
		if n.Exp < -10000 || n.Exp > 10000 || len(n.Digits) > 100 {
			continue
		}
		for _, s := range []string{d.String(), d.Plain()} {
			if got, e := Parse(s); got != n || e != api.OK {
				t.Errorf("Parse(%q) = %#v, %d, not %#v", s, got, e, n)
			}
		}
	}
}

func TestMag(t *testing.T) {
	cases := []struct {
		d    Dec
		want int
		ok   bool
	}{
		{Dec{}, 0, false}, {Dec{true, "000", 7}, 0, false}, {Dec{false, "1x", 7}, 0, false}, {Dec{Exp: -7}, 0, false},
		{Dec{false, "1", 0}, 0, true}, {Dec{true, "9", 0}, 0, true}, {Dec{false, "125", -1}, 1, true}, {Dec{false, "00125", -1}, 1, true},
		{Dec{false, "100", 0}, 2, true}, {Dec{true, "125", 2}, 4, true}, {Dec{false, "125", -3}, -1, true}, {Dec{false, "1", -3}, -3, true}, {Dec{false, "10", -3}, -2, true},
		{Dec{false, "1", 30000}, 30000, true}, {Dec{false, "1", 30001}, 30000, true}, {Dec{false, "12", 30000}, 30001, true},
		{Dec{false, "1", -30000}, -30000, true}, {Dec{false, "1", math.MinInt}, -30000, true}, {Dec{false, "123", -40000}, -29998, true},
	}
	for _, c := range cases {
		if got, ok := c.d.Mag(); got != c.want || ok != c.ok {
			t.Errorf("Mag of %#v = %d, %v, not %d, %v", c.d, got, ok, c.want, c.ok)
		}
	}
}

// P2.4

func TestSigns(t *testing.T) {
	for _, d := range loose() {
		n := normal(d)
		abs, minus := n, n
		abs.Neg = false
		minus.Neg = !n.Neg && n.Digits != ""
		if got := d.Abs(); got != abs {
			t.Errorf("Abs of %#v = %#v", d, got)
		}
		if got := d.Minus(); got != minus || got.Minus() != n {
			t.Errorf("Minus of %#v = %#v", d, got)
		}
	}
	if got := (Dec{true, "5", 0}).Abs(); got != (Dec{false, "5", 0}) {
		t.Errorf("Abs: %#v", got)
	}
	if got := (Dec{false, "0", 0}).Minus(); got != (Dec{}) {
		t.Errorf("Minus: %#v", got)
	}
}

func TestScale(t *testing.T) {
	cases := []struct {
		d    Dec
		k    int
		want Dec
	}{
		{Dec{false, "125", -1}, 0, Dec{false, "125", -1}}, {Dec{false, "125", -1}, 3, Dec{false, "125", 2}}, {Dec{true, "125", -1}, -3, Dec{true, "125", -4}},
		{Dec{false, "100", 0}, -2, Dec{false, "1", 0}}, {Dec{true, "0", 5}, 3, Dec{}}, {Dec{}, math.MaxInt, Dec{}}, {Dec{}, math.MinInt, Dec{}}, {Dec{Digits: "1x"}, 3, Dec{}},
		{Dec{false, "1", 0}, 30000, Dec{false, "1", 30000}}, {Dec{false, "1", 0}, 30001, Dec{false, "1", 30000}},
		{Dec{false, "1", 0}, -30000, Dec{false, "1", -30000}}, {Dec{false, "1", 0}, -30001, Dec{false, "1", -30000}},
		{Dec{false, "1", -30000}, 60000, Dec{false, "1", 30000}}, {Dec{false, "1", -30000}, 59999, Dec{false, "1", 29999}}, {Dec{false, "1", -30000}, 60001, Dec{false, "1", 30000}},
		{Dec{false, "1", 30000}, -60000, Dec{false, "1", -30000}}, {Dec{false, "1", 30000}, -59999, Dec{false, "1", -29999}}, {Dec{false, "1", 30000}, -60001, Dec{false, "1", -30000}},
		{Dec{false, "1", 30000}, math.MaxInt, Dec{false, "1", 30000}}, {Dec{false, "1", -30000}, math.MinInt, Dec{false, "1", -30000}},
		{Dec{false, "1", 30000}, math.MinInt, Dec{false, "1", -30000}}, {Dec{false, "1", -30000}, math.MaxInt, Dec{false, "1", 30000}},
		{Dec{false, "1", math.MaxInt}, -5, Dec{false, "1", 29995}}, {Dec{false, "1", math.MinInt}, 5, Dec{false, "1", -29995}},
		{Dec{false, "10", -30001}, 5, Dec{false, "1", -29994}}, {Dec{false, "10", 0}, 30000, Dec{false, "1", 30000}}, {Dec{false, "10", 0}, -30001, Dec{false, "1", -30000}},
	}
	for _, c := range cases {
		if got := c.d.Scale(c.k); got != c.want {
			t.Errorf("Scale of %#v by %d = %#v, not %#v", c.d, c.k, got, c.want)
		}
	}
}

func TestAddSubCmp(t *testing.T) {
	cases := []struct {
		a, b      Dec
		sum, less Dec
		cmp       int
	}{
		{Dec{}, Dec{true, "0", 5}, Dec{}, Dec{}, 0},
		{Dec{false, "125", -1}, Dec{true, "25", 0}, Dec{true, "125", -1}, Dec{false, "375", -1}, 1},
		{Dec{false, "5", 0}, Dec{false, "50", -1}, Dec{false, "1", 1}, Dec{}, 0},
		{Dec{true, "5", 0}, Dec{false, "5", 0}, Dec{}, Dec{true, "1", 1}, -1},
		{Dec{true, "2", 0}, Dec{true, "1", 0}, Dec{true, "3", 0}, Dec{true, "1", 0}, -1},
		{Dec{true, "1", 0}, Dec{true, "2", 0}, Dec{true, "3", 0}, Dec{false, "1", 0}, 1},
		{Dec{false, "1", 0}, Dec{}, Dec{false, "1", 0}, Dec{false, "1", 0}, 1},
		{Dec{}, Dec{false, "1", 0}, Dec{false, "1", 0}, Dec{true, "1", 0}, -1},
		{Dec{true, "1", 0}, Dec{}, Dec{true, "1", 0}, Dec{true, "1", 0}, -1},
		{Dec{Digits: "1x"}, Dec{true, "1", 0}, Dec{true, "1", 0}, Dec{false, "1", 0}, 1},
		{Dec{false, "9", 0}, Dec{false, "10", 0}, Dec{false, "19", 0}, Dec{true, "1", 0}, -1},
		{Dec{false, "999", -3}, Dec{false, "1", -3}, Dec{false, "1", 0}, Dec{false, "998", -3}, 1},
		{Dec{false, "12", 0}, Dec{false, "125", -1}, Dec{false, "245", -1}, Dec{true, "5", -1}, -1},
		{Dec{false, "5", 30000}, Dec{false, "5", 30000}, Dec{false, "1", 30000}, Dec{}, 0},
		{Dec{false, "6", 30000}, Dec{false, "5", 99999}, Dec{false, "11", 30000}, Dec{false, "1", 30000}, 1},
		{Dec{false, "5", -30000}, Dec{false, "5", -99999}, Dec{false, "1", -29999}, Dec{}, 0},
		{Dec{false, "7", 30000}, Dec{false, "1", -30000}, Dec{false, "7" + strings.Repeat("0", 59999) + "1", -30000}, Dec{false, "6" + strings.Repeat("9", 60000), -30000}, 1},
		{Dec{true, "7", math.MaxInt}, Dec{true, "1", math.MinInt}, Dec{true, "7" + strings.Repeat("0", 59999) + "1", -30000}, Dec{true, "6" + strings.Repeat("9", 60000), -30000}, -1},
	}
	for _, c := range cases {
		if got := Add(c.a, c.b); got != c.sum {
			t.Errorf("Add(%v, %v) = %.40s, not %.40s", c.a, c.b, got, c.sum)
		}
		if got := Sub(c.a, c.b); got != c.less {
			t.Errorf("Sub(%v, %v) = %.40s, not %.40s", c.a, c.b, got, c.less)
		}
		if got := Cmp(c.a, c.b); got != c.cmp {
			t.Errorf("Cmp(%v, %v) = %d, not %d", c.a, c.b, got, c.cmp)
		}
	}
}

func TestTwoDecimalsAgainstBig(t *testing.T) {
	list := loose()
	for i, a := range list {
		for _, b := range list[i:] {
			low := min(normal(a).Exp, normal(b).Exp)
			x, y := units(t, a, low), units(t, b, low)
			sum, less := ofUnits(new(big.Int).Add(x, y), low), ofUnits(new(big.Int).Sub(x, y), low)
			if Add(a, b) != sum || Add(b, a) != sum {
				t.Errorf("Add(%.40s, %.40s) = %.40s, the other way round %.40s", a, b, Add(a, b), Add(b, a))
			}
			turned := less
			turned.Neg = !less.Neg && less.Digits != ""
			if Sub(a, b) != less || Sub(b, a) != turned {
				t.Errorf("Sub(%.40s, %.40s) = %.40s, the other way round %.40s", a, b, Sub(a, b), Sub(b, a))
			}
			if Cmp(a, b) != x.Cmp(y) || Cmp(b, a) != y.Cmp(x) {
				t.Errorf("Cmp(%.40s, %.40s) = %d, the other way round %d", a, b, Cmp(a, b), Cmp(b, a))
			}
		}
	}
}
