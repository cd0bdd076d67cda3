package operand

import (
	"math"
	"math/big"
	"math/rand"
	"regexp"
	"strconv"
	"strings"
	"testing"

	"florin/api"
	"florin/dec"
	"florin/show"
)

// digits is so many digits, none of them a nought.
func digits(n int) string { return strings.Repeat("7", n) }

// noughts is so many noughts.
func noughts(n int) string { return strings.Repeat("0", n) }

// shown is digits of all sorts as layer 4 shows them.
func shown() []show.Vis {
	list := []show.Vis{
		{}, {Int: "0"}, {Int: "000"}, {Frac: "0"}, {Int: "0", Frac: "000"}, {Neg: true, Int: "0"}, {Int: "5"}, {Neg: true, Int: "5", Frac: "50"}, {Int: "007", Frac: "0700"}, {Frac: "05"}, {Int: "0", Frac: "00010"},
		{Int: "10"}, {Int: "1", Frac: "20"}, {Int: "123", Frac: "456"}, {Int: digits(1000)}, {Frac: digits(1000)}, {Int: digits(300), Frac: noughts(100)}, {Frac: noughts(9999) + "1"}, {Frac: noughts(10000) + "1"}, {Frac: digits(30000)}, {Int: "1" + noughts(30000)},
	}
	source := rand.New(rand.NewSource(5))
	for range 200 {
		list = append(list, show.Vis{Neg: source.Intn(2) == 0, Int: someDigitsOf(source, 6), Frac: someDigitsOf(source, 8)})
	}
	return list
}

// someDigitsOf is digits by a source, with many noughts among them.
func someDigitsOf(source *rand.Rand, most int) string {
	text := make([]byte, source.Intn(most+1))
	for i := range text {
		text[i] = "00000123456789"[source.Intn(14)]
	}
	return string(text)
}

// powers is powers of ten of all sorts.
var powers = []int{math.MinInt, -10001, -10000, -3, -1, 0, 1, 2, 3, 4, 5, 6, 7, 8, 9, 15, 100, 999, 9999, 10000, 10001, 10002, 60000, 1 << 20, math.MaxInt}

// value is digits as a whole number.
func value(s string) *big.Int {
	n, _ := new(big.Int).SetString("0"+s, 10)
	return n
}

// P5.1

func TestOfMovesThePoint(t *testing.T) {
	for _, c := range []struct {
		whole, frac string
		e           int
		want        Ops
	}{
		{"1", "20", 0, Ops{"1", "20", 0}},
		{"1", "20", 1, Ops{"12", "0", 1}},
		{"1", "20", 2, Ops{"120", "", 2}},
		{"1", "20", 3, Ops{"1200", "", 3}},
		{"1", "2", 6, Ops{"1200000", "", 6}},
		{"123", "456", 2, Ops{"12345", "6", 2}},
		{"123", "", 2, Ops{"12300", "", 2}},
		{"007", "", 0, Ops{"7", "", 0}},
		{"007", "0700", 1, Ops{"70", "700", 1}},
		{"000", "007", 2, Ops{"", "7", 2}},
		{"", "05", 0, Ops{"", "05", 0}},
		{"", "05", 1, Ops{"", "5", 1}},
		{"", "05", 2, Ops{"5", "", 2}},
		{"", "05", 3, Ops{"50", "", 3}},
		{"", "0500", 2, Ops{"5", "00", 2}},
		{"10", "00", 1, Ops{"100", "0", 1}},
	} {
		if o := Of(show.Vis{Int: c.whole, Frac: c.frac}, c.e); o != c.want {
			t.Errorf("%q.%q with %d is %v, not %v", c.whole, c.frac, c.e, o, c.want)
		}
	}
}

func TestOfCountsPowersFromNoneToTheGreatest(t *testing.T) {
	for _, v := range shown() {
		none, most := Of(v, 0), Of(v, 10000)
		if none.Exp != 0 || most.Exp != 10000 {
			t.Fatalf("the powers 0 and 10,000 are %d and %d", none.Exp, most.Exp)
		}
		for _, e := range []int{-1, -3, -10000, math.MinInt} {
			if Of(v, e) != none {
				t.Fatalf("the power %d doesn't count as 0", e)
			}
		}
		for _, e := range []int{10001, 10002, 20000, 60001, math.MaxInt} {
			if Of(v, e) != most {
				t.Fatalf("the power %d doesn't count as 10,000", e)
			}
		}
	}
	if o := Of(show.Vis{Int: "1", Frac: "2"}, 9999); o != (Ops{"12" + noughts(9998), "", 9999}) {
		t.Error("the power 9,999 isn't that")
	}
	if o := Of(show.Vis{Int: "1", Frac: "2"}, 10000); o != (Ops{"12" + noughts(9999), "", 10000}) {
		t.Error("the power 10,000 isn't that")
	}
}

func TestOfNoughtInAllItsForms(t *testing.T) {
	for _, v := range []show.Vis{{}, {Int: "0"}, {Neg: true, Int: "0"}, {Int: "0000"}, {Frac: "0"}, {Int: "00", Frac: "000"}, {Neg: true, Frac: "00000"}} {
		for _, e := range []int{-1, 0, 1, 2, 3, 5, 10000} {
			want := Ops{Exp: max(e, 0), Frac: noughts(max(len(v.Frac)-max(e, 0), 0))}
			if o := Of(v, e); o != want {
				t.Errorf("%q with %d is %v, not %v", v.Text(), e, o, want)
			}
		}
	}
}

func TestOfLeavesOutTheSign(t *testing.T) {
	for _, v := range shown() {
		below := show.Vis{Neg: !v.Neg, Int: v.Int, Frac: v.Frac}
		for _, e := range powers {
			if Of(v, e) != Of(below, e) {
				t.Fatalf("%q with %d hangs on its sign", v.Text(), e)
			}
		}
	}
}

func TestOfKeepsTheNumber(t *testing.T) {
	ten := big.NewInt(10)
	for _, v := range shown() {
		for _, e := range powers {
			o, held := Of(v, e), min(max(e, 0), 10000)
			if o.Exp != held || len(o.Frac) != max(len(v.Frac)-held, 0) || !strings.HasSuffix(v.Frac, o.Frac) || strings.HasPrefix(o.Int, "0") {
				t.Fatalf("%q.%q with %d is %v", v.Int, v.Frac, e, o)
			}
			// Both sides as whole numbers: what was shown times the power, what came out times the digits that went over.
			scale := int64(held + len(o.Frac) - len(v.Frac))
			want := new(big.Int).Mul(value(v.Int+v.Frac), new(big.Int).Exp(ten, big.NewInt(scale), nil))
			if value(o.Int+o.Frac).Cmp(want) != 0 {
				t.Fatalf("%q.%q with %d is another number", v.Int, v.Frac, e)
			}
		}
	}
}

func TestOfWhatLayerFourShows(t *testing.T) {
	x, _ := dec.Parse("-1234.5")
	for _, c := range []struct {
		p    show.Prec
		e    int
		want Ops
	}{
		{show.Prec{Min: 2, Max: 2, MinInt: 6}, 0, Ops{"1234", "50", 0}},
		{show.Prec{Min: 2, Max: 2, MinInt: 6}, 1, Ops{"12345", "0", 1}},
		{show.Prec{Kind: show.Sig, Min: 1, Max: 2}, 3, Ops{"1200000", "", 3}},
		{show.Prec{MinInt: 9}, 0, Ops{"1234", "", 0}},
	} {
		v, e := c.p.Apply(x)
		if o := Of(v, c.e); e != api.OK || o != c.want {
			t.Errorf("%q with %d is %v, not %v", v.Text(), c.e, o, c.want)
		}
	}
}

func TestOfAnyTextsEnds(t *testing.T) {
	for _, s := range []string{"x", "-1", "1.5", "é", "\xff\xfe", "5\x00"} {
		for _, e := range powers {
			if o := Of(show.Vis{Int: s, Frac: "1"}, e); o.Int != "" {
				t.Errorf("%q is told as the digits %q", s, o.Int)
			}
			Of(show.Vis{Int: "1", Frac: s}, e)
		}
	}
}

// P5.2

func TestReadNumbersOfSamples(t *testing.T) {
	for s, want := range map[string]Ops{
		"0": {}, "00": {}, "0.0": {Frac: "0"}, "00.000": {Frac: "000"}, "0c0": {}, "0e3": {Exp: 3}, "0.00c1": {Frac: "0", Exp: 1}, "0.0c5": {Exp: 5},
		"1": {Int: "1"}, "007": {Int: "7"}, "1.0": {Int: "1", Frac: "0"}, "10.10": {Int: "10", Frac: "10"}, "0.05": {Frac: "05"},
		"1c0": {Int: "1"}, "1e0": {Int: "1"}, "1.20c1": {Int: "12", Frac: "0", Exp: 1}, "1.20e1": {Int: "12", Frac: "0", Exp: 1}, "1.2e6": {Int: "1200000", Exp: 6}, "1.0000001c6": {Int: "1000000", Frac: "1", Exp: 6},
		"123.456c2": {Int: "12345", Frac: "6", Exp: 2}, "5c003": {Int: "5000", Exp: 3}, "5e000": {Int: "5"}, "9.9c" + noughts(2000) + "1": {Int: "99", Exp: 1},
	} {
		if o, e := Read(s); e != api.OK || o != want {
			t.Errorf("%q is %v and %d, not %v", s, o, e, want)
		}
	}
}

func TestReadIsOfWhatIsShown(t *testing.T) {
	for _, v := range shown() {
		if v.Int == "" || len(v.Int+v.Frac) > 1000 {
			continue
		}
		v.Neg = false
		for _, e := range powers {
			if e < 0 || e > 10000 {
				continue
			}
			for _, letter := range []string{"c", "e"} {
				s := v.Text() + letter + strconv.Itoa(e)
				if o, errno := Read(s); errno != api.OK || o != Of(v, e) {
					t.Fatalf("%q is %v and %d", s, o, errno)
				}
			}
		}
		if o, errno := Read(v.Text()); errno != api.OK || o != Of(v, 0) {
			t.Fatalf("%q is %v and %d", v.Text(), o, errno)
		}
	}
}

func TestReadRefusesWhatIsNoSample(t *testing.T) {
	for _, s := range []string{
		"", " ", "-1", "+1", "-0", "1-", "--1", ".", ".5", "1.", "1.c2", ".5e2", ".c1", "1.2.3", "1..2", "1.2.", "c", "e", "c1", "e1", "1c", "1e", "1.5c", "1.5e",
		"1c-2", "1c+2", "1e-2", "1e+2", "1c2c3", "1e2e3", "1c2e3", "1e2c3", "1ce2", "1c.5", "1c2.5", "1c2.", "1c 2", "1 ", " 1", "1 c2", "1c2 ", "1C2", "1E2", "1,5", "1_000", "0x1", "1\x00", "1\n", "\x001", "é", "1é", "٣", "1٣", "１", "\xff", "1\xff", "1.\xff", "1c\xff", "∞", "/", ":", "1/", "1:", "1./", "1.:", "1c/", "1c:", "1~2", "1…",
	} {
		if o, e := Read(s); e != api.ErrForm || o != (Ops{}) {
			t.Errorf("%q is %v and %d, not ErrForm", s, o, e)
		}
	}
}

func TestReadBoundsDigits(t *testing.T) {
	for _, s := range []string{
		digits(1000), digits(1) + "." + digits(999), digits(999) + ".0", digits(500) + "." + digits(500) + "c10000", noughts(1000), noughts(999) + "1", "0." + noughts(999), noughts(999) + ".5", digits(1000) + "e10000", digits(1000) + "c0010000",
	} {
		if o, e := Read(s); e != api.OK || o.Exp == 0 && len(o.Frac) == 0 && o.Int != strings.TrimLeft(s, "0") {
			t.Errorf("%d bytes %.9q… are %d", len(s), s, e)
		}
	}
	for _, s := range []string{
		digits(1001), digits(1) + "." + digits(1000), digits(1000) + ".0", digits(500) + "." + digits(501) + "c1", noughts(1001), noughts(1000) + "1", "0." + noughts(1000), noughts(1000) + ".5", digits(1001) + "e1", digits(1001) + "c10000", digits(1001) + "c10001", digits(100000),
	} {
		if o, e := Read(s); e != api.ErrLong || o != (Ops{}) {
			t.Errorf("%d bytes %.9q… are %d, not ErrLong", len(s), s, e)
		}
	}
}

func TestReadBoundsPowers(t *testing.T) {
	for _, letter := range []string{"c", "e"} {
		for _, s := range []string{"10000", "010000", noughts(5000) + "10000"} {
			if o, e := Read("1" + letter + s); e != api.OK || o != (Ops{"1" + noughts(10000), "", 10000}) {
				t.Errorf("1%s%s is %d", letter, s, e)
			}
		}
		for _, s := range []string{"10001", "010001", noughts(5000) + "10001", "11000", "99999", "100000", digits(18), digits(19), digits(20), "18446744073709551616", "18446744073709551617", "9223372036854775808", digits(5000)} {
			for _, ahead := range []string{"1", "0", "0.0", "1.5"} {
				if o, e := Read(ahead + letter + s); e != api.ErrLong || o != (Ops{}) {
					t.Errorf("%s%s%s is %v and %d, not ErrLong", ahead, letter, s, o, e)
				}
			}
		}
	}
}

func TestReadTellsTheFormFirst(t *testing.T) {
	for _, s := range []string{
		"-" + digits(1001), digits(1001) + ".", "." + digits(1001), digits(1001) + "c", digits(1001) + "e-1", digits(1001) + "x", digits(600) + "." + digits(600) + ".1", "1c10001x", "1c-10001", "1e10001.5", "1.c10001", ".5c10001", "c10001", "1c10001c1", "1c1c10001", "1x" + digits(1001), digits(1001) + "c10001 ", "1e" + digits(30) + "e",
	} {
		if o, e := Read(s); e != api.ErrForm || o != (Ops{}) {
			t.Errorf("%.12q… of %d bytes is %v and %d, not ErrForm", s, len(s), o, e)
		}
	}
}

func TestReadKeepsToTheForm(t *testing.T) {
	form := regexp.MustCompile(`\A[0-9]+(\.[0-9]+)?([ce][0-9]+)?\z`)
	source := rand.New(rand.NewSource(6))
	for range 60000 {
		text := make([]byte, source.Intn(9))
		for i := range text {
			text[i] = "0012359..ce-x"[source.Intn(13)]
		}
		s := string(text)
		want := api.ErrForm
		if form.MatchString(s) {
			want = api.OK
			if at := strings.IndexAny(s, "ce"); at >= 0 && value(s[at+1:]).Cmp(big.NewInt(10000)) > 0 {
				want = api.ErrLong
			}
		}
		if o, e := Read(s); e != want || e != api.OK && o != (Ops{}) {
			t.Fatalf("%q is %v and %d, not %d", s, o, e, want)
		}
	}
}

// P5.3

func TestOperands(t *testing.T) {
	for _, c := range []struct {
		o     Ops
		i     string
		v, w  int
		f, t  string
		whole bool
	}{
		{Ops{}, "", 0, 0, "", "", true},
		{Ops{Exp: 6}, "", 0, 0, "", "", true},
		{Ops{Int: "0"}, "", 0, 0, "", "", true},
		{Ops{Int: "000", Frac: "000"}, "", 3, 0, "", "", true},
		{Ops{Int: "1"}, "1", 0, 0, "", "", true},
		{Ops{Int: "1", Frac: "0"}, "1", 1, 0, "", "", true},
		{Ops{Int: "12", Frac: "0", Exp: 1}, "12", 1, 0, "", "", true},
		{Ops{Int: "12", Frac: "0340"}, "12", 4, 3, "340", "34", false},
		{Ops{Int: "1", Frac: "3"}, "1", 1, 1, "3", "3", false},
		{Ops{Int: "1", Frac: "30"}, "1", 2, 1, "30", "3", false},
		{Ops{Int: "1", Frac: "03"}, "1", 2, 2, "3", "3", false},
		{Ops{Int: "1", Frac: "230"}, "1", 3, 2, "230", "23", false},
		{Ops{Int: "1", Frac: "10203000"}, "1", 8, 5, "10203000", "10203", false},
		{Ops{Int: "007", Frac: "05"}, "7", 2, 2, "5", "5", false},
		{Ops{Int: "100"}, "100", 0, 0, "", "", true},
		{Ops{Int: "1200000", Exp: 6}, "1200000", 0, 0, "", "", true},
		{Ops{Int: digits(1000), Frac: noughts(99) + "1"}, digits(1000), 100, 100, "1", "1", false},
		{Ops{Frac: noughts(100)}, "", 100, 0, "", "", true},
	} {
		if c.o.I() != c.i || c.o.V() != c.v || c.o.W() != c.w || c.o.F() != c.f || c.o.T() != c.t || c.o.Whole() != c.whole {
			t.Errorf("%v: %q, %d, %d, %q, %q, %v", c.o, c.o.I(), c.o.V(), c.o.W(), c.o.F(), c.o.T(), c.o.Whole())
		}
	}
}

func TestOperandsHangOnTheirDigits(t *testing.T) {
	for _, v := range shown() {
		o := Ops{Int: v.Int, Frac: v.Frac, Exp: 3}
		if strings.HasPrefix(o.I(), "0") || value(o.I()).Cmp(value(v.Int)) != 0 {
			t.Fatalf("I of %v is %q", o, o.I())
		}
		if strings.HasPrefix(o.F(), "0") || value(o.F()).Cmp(value(v.Frac)) != 0 || o.V() != len(v.Frac) {
			t.Fatalf("F of %v is %q, V %d", o, o.F(), o.V())
		}
		noughtsAtEnd := len(v.Frac) - o.W()
		if noughtsAtEnd < 0 || v.Frac[o.W():] != noughts(noughtsAtEnd) || o.W() > 0 && v.Frac[o.W()-1] == '0' {
			t.Fatalf("W of %v is %d", o, o.W())
		}
		if strings.HasPrefix(o.T(), "0") || value(o.T()).Cmp(value(v.Frac[:o.W()])) != 0 {
			t.Fatalf("T of %v is %q", o, o.T())
		}
		if o.Whole() != (value(v.Frac).Sign() == 0) {
			t.Fatalf("Whole of %v is %v", o, o.Whole())
		}
	}
}

func TestOperandsOfAnyTexts(t *testing.T) {
	for _, s := range []string{"x", "-1", "1.5", "é0", "\xff0", "0\x00"} {
		o := Ops{Int: s, Frac: s, Exp: -1}
		if o.I() != "" || o.F() != "" || o.T() != "" || !o.Whole() || o.V() != len(s) || o.W() > len(s) {
			t.Errorf("%q: %q, %d, %d, %q, %q, %v", s, o.I(), o.V(), o.W(), o.F(), o.T(), o.Whole())
		}
	}
}
