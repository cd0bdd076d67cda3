package eval

import (
	"math"
	"math/big"
	"strings"
	"testing"

	"florin/api"
	"florin/operand"
	"florin/rule"
	"florin/show"
)

// noughts is so many noughts.
func noughts(n int) string { return strings.Repeat("0", n) }

// read is what rules see of a number's text.
func read(t *testing.T, s string) operand.Ops {
	t.Helper()
	o, e := operand.Read(s)
	if e != api.OK {
		t.Fatalf("%q is no number: %d", s, e)
	}
	return o
}

// rules is rules of a text.
func rules(t *testing.T, s string) rule.Rules {
	t.Helper()
	list, e, at := rule.Parse(s)
	if e != api.OK {
		t.Fatalf("%q: %d at %d", s, e, at)
	}
	return list
}

// relation is the relation that a text is.
func relation(t *testing.T, s string) rule.Rel {
	t.Helper()
	return rules(t, "one: "+s)[0].Any[0][0]
}

// P7.1

// holding is relations by the numbers that they hold of; those behind the mark | they don't hold of.
var holding = map[string]string{
	// n: the number itself
	"n = 1":         "1 1.0 1.000 01 0.1c1 1.0c0 | 0 2 10 11 1.1 1.01 0.9 1c1 1000000000000000000000",
	"n != 1":        "0 2 1.1 1.5 0.9 10 1c1 1000000000000000000000 | 1 1.0 1.00 0.10c1",
	"n = 0":         "0 0.0 0.000 0c3 | 1 0.1 0.001 0.0001c3 10 1000000000000000000000",
	"n = 0..999999": "0 1.0 999999 999999.00 9.99999c5 | 1.5 0.5 999999.5 1000000 999999.1 9.999991c5",
	"n % 10 = 1":    "1 11 1.0 101.00 1000000000000000000000000001 1.1c1 | 0 10 1.1 11.5 1c1 1.01 1000000000000000000000000001.5",
	"n % 10 != 1":   "0 10 1.1 11.5 1c1 1000000000000000000000000001.5 | 1 11 1.0 101.00 1000000000000000000000000001",
	"n % 10 = 0..9": "0 1 19 5.0 123456789012345678901234567890 | 1.5 0.1 10.01 123456789012345678901234567890.1",
	"n % 1 = 0":     "0 1 17 3.0 | 0.5 3.1",
	"n % 1 != 0":    "0.5 3.1 | 0 1 17 3.0",
	// i: the whole number
	"i = 1":           "1 1.0 1.5 1.99 01 0.12c1 | 0 0.9 2 2.5 11 1c1",
	"i != 1":          "0 0.9 2 2.5 11 1c1 | 1 1.0 1.5",
	"i = 0":           "0 0.5 0.0 0.04c1 | 1 10 0.5c1",
	"i % 100 = 11":    "11 111 11.5 999999999999999999999999911 | 1 12 110 1.1",
	"i % 100 != 11":   "1 12 110 1.1 | 11 111 11.5 999999999999999999999999911",
	"i % 1000000 = 0": "0 0.5 1000000 1c6 5c9 1c10000 | 1 1000001 100000 1.0000001c7",
	// v and w: how many digits behind the point, with noughts at the end and without
	"v = 0":      "0 1 17 1.2c1 | 0.0 1.0 1.25c1",
	"v != 0":     "0.0 1.0 1.25c1 | 0 1 1.2c1",
	"v = 2":      "0.00 1.50 1.23 1.234c1 | 1 1.0 1.234",
	"v % 2 = 1":  "1.0 1.234 | 1 1.00 1.2345",
	"v % 2 != 1": "1 1.00 1.2345 | 1.0 1.234",
	"w = 0":      "0 1 1.0 1.000 | 1.5 1.500 0.01",
	"w != 0":     "1.5 1.500 0.01 | 0 1 1.0 1.000",
	"w = 2":      "1.01 1.1500 0.25 | 1 1.00 1.5 1.125",
	"w % 2 = 0":  "1 1.0 1.25 1.2500 | 1.5 1.50 1.125",
	"w % 2 != 0": "1.5 1.50 1.125 | 1 1.0 1.25",
	// f and t: these digits as numbers
	"f = 0":        "0 1 1.0 1.000 | 1.5 1.05 1.50",
	"f != 0":       "1.5 1.05 1.50 | 0 1 1.0",
	"f = 5":        "1.5 1.05 0.005 0.5 | 1.50 5 5.0 1.15",
	"f = 50":       "1.50 1.050 | 1.5 50 1.05",
	"f % 10 = 1":   "1.1 1.21 1.01 0.99999999999999999999999999991 | 1.10 1 11 11.2",
	"f % 10 != 1":  "1.10 1 11 11.2 | 1.1 1.21",
	"t = 0":        "0 1 1.0 1.000 | 1.5 1.50",
	"t != 0":       "1.5 1.50 | 0 1 1.0",
	"t = 5":        "1.5 1.50 1.05 1.0500 | 5 1 1.55",
	"t % 10 = 1":   "1.1 1.10 1.2100 | 1 11 1.2 1.02",
	"t % 10 != 1":  "1 11 1.2 1.02 | 1.1 1.10",
	"f = 0..99999": "1 1.99999 1.000001 | 1.100000 1.123456",
	// c and e: the power
	"c = 0":         "0 1 1.5 1000000 1c0 | 1c1 1c6 0c6",
	"e = 0":         "0 1 1.5 1000000 1e0 | 1e1 1c6 0e6",
	"c != 0":        "1c1 1.5e6 0c6 | 0 1 1c0",
	"e != 0":        "1c1 1.5e6 0e6 | 0 1 1e0",
	"c = 6":         "1c6 1.5e6 0c6 | 6 1000000 1c5",
	"e = 0..5":      "1 1c5 1e3 | 1c6 1e10000",
	"c % 3 = 0":     "1 1c3 1e6 1c9999 | 1c1 1e2 1c10000",
	"e % 3 != 0":    "1c1 1e2 1c10000 | 1 1c3 1e6",
	"c = 10000":     "1c10000 1.5e10000 | 1c9999 10000",
	"i = 999999999": "999999999 999999999.5 | 999999998 1000000000 9999999990 1999999999 18446744074709551615",
	// several ranges
	"n = 1,3":            "1 3 3.0 | 2 0 4 13 1.5",
	"n != 1,3":           "2 0 4 13 1.5 | 1 3 3.0",
	"n = 0..2,5,7..9":    "0 1 2 5 7 8 9 | 3 4 6 10 5.5",
	"n != 0..2,5,7..9":   "3 4 6 10 5.5 | 0 1 2 5 7 8 9",
	"n % 10 = 9,2..3,2":  "2 3 9 12 19 | 0 1 4 8 10 2.5",
	"n % 100 != 3..4,13": "1 12 14 113.5 | 3 4 13 103 104 113",
	"i = 5..5":           "5 5.9 | 4 6",
	"i % 999999999 = 1":  "1 1000000000 1999999999 | 0 2 999999999",
	"i = 0..999999999":   "0 999999999 | 1000000000 1000000000000000000 9223372036854775808 18446744073709551616 18446744073709551617",
	"i != 0..999999999":  "1000000000 1000000000000000000 9223372036854775808 18446744073709551616 18446744073709551617 | 0 999999999",
	"t = 0..999999999":   "0.999999999 | 0.1000000001 0.18446744073709551617",
	"n % 7 = 6":          "1000 1000.0 | 1001 999 1000.1",
	"n = 100":            "100 100.0 1c2 | 1000 10 1c3",
}

func TestHolds(t *testing.T) {
	for text, numbers := range holding {
		r := relation(t, text)
		yes, no, _ := strings.Cut(numbers, "|")
		for _, s := range strings.Fields(yes) {
			if !Holds(r, read(t, s)) {
				t.Errorf("%s doesn't hold of %s", text, s)
			}
		}
		for _, s := range strings.Fields(no) {
			if Holds(r, read(t, s)) {
				t.Errorf("%s holds of %s", text, s)
			}
		}
	}
}

// someNumbers is numbers of all sorts: whole ones, with digits behind the point, all noughts or not, of many digits, with powers.
func someNumbers() []string {
	list := []string{
		"0.0", "0.00", "0.1", "0.10", "0.01", "0.010", "0.5", "0.50", "1.0", "1.00", "1.1", "1.10", "1.5", "1.25", "2.0", "2.7", "9.99", "10.0", "10.5", "11.0", "11.11", "12.34500", "99.9", "100.00", "100.01", "101.1010",
		"1c1", "1e1", "1.5c1", "1.25c1", "0c2", "0.0c2", "1.50e3", "1c3", "1e6", "1.2345678c6", "2.000c2", "1c100", "1.1c10000", "5e9999",
		"999999998", "999999999", "1000000000", "1000000001", "999999999999999999", "1000000000000000000", "9223372036854775807", "9223372036854775808", "18446744073709551615", "18446744073709551616", "18446744073709551617",
		"0." + noughts(50) + "1", "0.1" + noughts(50), "1" + noughts(999), strings.Repeat("7", 1000), strings.Repeat("7", 500) + "." + strings.Repeat("3", 500), "1." + noughts(999), "0." + strings.Repeat("1", 999),
	}
	for n := range 130 {
		list = append(list, big.NewInt(int64(n)).String())
	}
	return list
}

// valueOf is an operand's value, found from a number's text by other means.
func valueOf(t *testing.T, op byte, text string) *big.Rat {
	t.Helper()
	shown, power := text, "0"
	if at := strings.IndexAny(text, "ce"); at >= 0 {
		shown, power = text[:at], text[at+1:]
	}
	exp, _ := new(big.Int).SetString(power, 10)
	whole, frac, _ := strings.Cut(shown, ".")
	// The point goes to the right, over digits or noughts.
	moved := int(exp.Int64())
	frac += noughts(moved - min(moved, len(frac)))
	whole, frac = whole+frac[:moved], frac[moved:]
	short := strings.TrimRight(frac, "0")
	texts := map[byte]string{'n': whole + "." + frac + "0", 'i': whole, 'f': "0" + frac, 't': "0" + short, 'c': power, 'e': power}
	if op == 'v' {
		return new(big.Rat).SetInt64(int64(len(frac)))
	}
	if op == 'w' {
		return new(big.Rat).SetInt64(int64(len(short)))
	}
	x, ok := new(big.Rat).SetString(texts[op])
	if !ok {
		t.Fatalf("%q has no value %c", text, op)
	}
	return x
}

// parted is what is left of a number when it is parted by a whole one.
func parted(x *big.Rat, mod int) *big.Rat {
	m := big.NewInt(int64(mod))
	whole := new(big.Int).Quo(x.Num(), x.Denom())
	often := new(big.Int).Quo(whole, m)
	return new(big.Rat).Sub(x, new(big.Rat).SetInt(often.Mul(often, m)))
}

// isWithin tells whether a number is a whole one, and in one of some ranges.
func isWithin(x *big.Rat, ranges []rule.Range) bool {
	for _, r := range ranges {
		if x.IsInt() && x.Cmp(big.NewRat(int64(r.Lo), 1)) >= 0 && x.Cmp(big.NewRat(int64(r.Hi), 1)) <= 0 {
			return true
		}
	}
	return false
}

func TestHoldsAgainstBig(t *testing.T) {
	lists := [][]rule.Range{{{Lo: 0, Hi: 0}}, {{Lo: 1, Hi: 1}}, {{Lo: 2, Hi: 4}}, {{Lo: 0, Hi: 999999999}}, {{Lo: 11, Hi: 11}, {Lo: 3, Hi: 5}, {Lo: 0, Hi: 0}}, {{Lo: 1, Hi: 6}, {Lo: 100, Hi: 1000}}, {{Lo: 999999999, Hi: 999999999}}}
	for _, text := range someNumbers() {
		o := read(t, text)
		for _, op := range []byte("nivwftce") {
			x := valueOf(t, op, text)
			for _, mod := range []int{0, 1, 2, 3, 7, 10, 100, 1000000, 999999999} {
				left := x
				if mod != 0 {
					left = parted(x, mod)
				}
				for _, ranges := range lists {
					want := isWithin(left, ranges)
					r := rule.Rel{Op: op, Mod: mod, Ranges: ranges}
					not := rule.Rel{Op: op, Mod: mod, Not: true, Ranges: ranges}
					if Holds(r, o) != want || Holds(not, o) == want {
						t.Fatalf("of %s, where %s is %t, %s is %t, %s is %t", text, r, want, r, Holds(r, o), not, Holds(not, o))
					}
				}
			}
		}
	}
}

func TestHoldsOfWhatIsShown(t *testing.T) {
	for _, c := range []struct {
		v    show.Vis
		e    int
		text string
		want bool
	}{
		{show.Vis{Int: "1"}, 0, "n = 1", true},
		{show.Vis{Neg: true, Int: "1"}, 0, "n = 1", true},
		{show.Vis{Int: "001", Frac: "00"}, 0, "i = 1", true},
		{show.Vis{Int: "001", Frac: "00"}, 0, "v = 2", true},
		{show.Vis{Int: "1", Frac: "5"}, 0, "n = 1..2", false},
		{show.Vis{Int: "1", Frac: "5"}, 3, "n = 1500", true},
		{show.Vis{Int: "1", Frac: "5"}, 3, "e = 3", true},
		{show.Vis{Int: "1", Frac: "5"}, -3, "c = 0", true},
		{show.Vis{}, 0, "n = 0", true},
	} {
		if got := Holds(relation(t, c.text), operand.Of(c.v, c.e)); got != c.want {
			t.Errorf("%s of %v with %d: %t", c.text, c.v, c.e, got)
		}
	}
}

func TestAnythingEnds(t *testing.T) {
	numbers := []int{math.MinInt, -1, 0, 1, 10, api.MaxSmall, api.MaxSmall + 1, math.MaxInt}
	texts := []string{"", "0", "1", "x", "-1", "\xff", "1.5", strings.Repeat("9", 2000)}
	for op := range 256 {
		for _, a := range numbers {
			for _, b := range texts {
				r := rule.Rel{Op: byte(op), Mod: a, Ranges: []rule.Range{{Lo: a, Hi: 5}, {Lo: 5, Hi: a}}}
				o := operand.Ops{Int: b, Frac: texts[op%len(texts)], Exp: a}
				x := rule.Rule{Cat: rule.Cat(a), Any: [][]rule.Rel{{r}, nil}}
				Holds(r, o)
				Meets(x, o)
				Pick(rule.Rules{x, {}}, o)
			}
		}
	}
}

// P7.2

func TestMeets(t *testing.T) {
	for text, numbers := range map[string]string{
		"n = 1":                                         "1 1.0 | 0 2 1.5",
		"i = 1 and v = 0":                               "1 | 1.0 0 2 1.5",
		"i = 1 or v = 1":                                "1 1.0 1.55 2.0 | 0 2 2.00",
		"i = 1 and v = 0 or i = 2 and v = 1":            "1 2.0 2.5 | 1.0 2 2.00 0",
		"n = 1 or n = 2 or n = 3":                       "1 2 3 | 0 4 1.5",
		"i = 5 and i = 6":                               "| 5 6 0",
		"i != 5 or i != 6":                              "5 6 0 |",
		"n = 3 or i % 10 = 1 and i % 100 = 1":           "3 1 101 201 3.0 1.5 | 11 111 21 2 3.5",
		"v = 0 and i % 10 = 2..4 and i % 100 != 12..14": "2 3 4 22 104 | 1 5 12 13 14 112 2.0 0",
	} {
		yes, no, _ := strings.Cut(numbers, "|")
		for _, c := range []rule.Cat{rule.Zero, rule.One, rule.Two, rule.Few, rule.Many} {
			x := rules(t, c.String()+": "+text)[0]
			for _, s := range strings.Fields(yes) {
				if !Meets(x, read(t, s)) {
					t.Errorf("%s isn't met by %s", x, s)
				}
			}
			for _, s := range strings.Fields(no) {
				if Meets(x, read(t, s)) {
					t.Errorf("%s is met by %s", x, s)
				}
			}
		}
	}
}

func TestMeetsTheRuleOfOther(t *testing.T) {
	never := [][]rule.Rel{{{Op: 'n', Ranges: []rule.Range{{Lo: 7, Hi: 7}}}}}
	for _, s := range someNumbers() {
		o := read(t, s)
		for _, x := range []rule.Rule{{Cat: rule.Other}, {Cat: rule.Other, Sample: "@x"}, rules(t, "other:")[0], {Cat: rule.Other, Any: never}} {
			if !Meets(x, o) {
				t.Fatalf("%s isn't met by %s", x, s)
			}
		}
		for c := range rule.Other {
			if Meets(rule.Rule{Cat: c}, o) {
				t.Fatalf("a rule of %s with no condition is met by %s", c, s)
			}
		}
	}
}

// orders is a list in all its orders.
func orders(list rule.Rules) []rule.Rules {
	if len(list) == 0 {
		return []rule.Rules{nil}
	}
	var all []rule.Rules
	for i, x := range list {
		rest := append(append(rule.Rules{}, list[:i]...), list[i+1:]...)
		for _, tail := range orders(rest) {
			all = append(all, append(rule.Rules{x}, tail...))
		}
	}
	return all
}

func TestPickInWhicheverOrder(t *testing.T) {
	// Each number below five meets its own rule and all those that come later.
	list := rules(t, "zero: n = 0; one: n = 0..1; two: n = 0..2; few: n = 0..3; many: n = 0..4; other:")
	for _, turned := range orders(list) {
		for n, s := range []string{"0", "1", "2", "3", "4", "5", "6"} {
			if got, want := Pick(turned, read(t, s)), rule.Cat(min(n, 5)); got != want {
				t.Fatalf("by %s the category of %s is %s, not %s", turned, s, got, want)
			}
		}
	}
}

func TestPickOther(t *testing.T) {
	for _, text := range []string{"", "other:", "one: n = 1", "one: n = 1; other:", "other:; one: n = 1", "zero: n = 0; one: n = 1; two: n = 2; few: n = 3; many: n = 4"} {
		for _, s := range []string{"5", "1.5", "17.0", "1c1", "100000000000000000000"} {
			if got := Pick(rules(t, text), read(t, s)); got != rule.Other {
				t.Errorf("by %q the category of %s is %s", text, s, got)
			}
		}
	}
	// A rule of other doesn't keep others from being asked, and numbers that are no category aren't picked.
	if got := Pick(rules(t, "other:; many: n = 5"), read(t, "5")); got != rule.Many {
		t.Errorf("behind the rule of other %s is picked", got)
	}
	all := [][]rule.Rel{{{Op: 'n', Ranges: []rule.Range{{Lo: 0, Hi: 9}}}}}
	if got := Pick(rule.Rules{{Cat: -1, Any: all}, {Cat: 6, Any: all}, {Cat: rule.Few, Any: all}}, read(t, "5")); got != rule.Few {
		t.Errorf("%d is picked", got)
	}
	if got := Pick(rule.Rules{{Cat: -1, Any: all}, {Cat: 6, Any: all}}, read(t, "5")); got != rule.Other {
		t.Errorf("%d is picked", got)
	}
}

func TestPickTheExample(t *testing.T) {
	list := rules(t, "one: i = 1 and v = 0")
	if one, other := Pick(list, read(t, "1")), Pick(list, read(t, "1.0")); one != rule.One || other != rule.Other {
		t.Errorf("1 is %s, 1.0 is %s", one, other)
	}
}

// languages is rules of several languages, with numbers of each category.
var languages = map[string]map[rule.Cat]string{
	// Arabic
	"zero: n = 0; one: n = 1; two: n = 2; few: n % 100 = 3..10; many: n % 100 = 11..99; other:": {
		rule.Zero: "0 0.0 0.000", rule.One: "1 1.0 1.00", rule.Two: "2 2.0", rule.Few: "3 10 103 110 1003 3.0 103.0", rule.Many: "11 26 99 111 1011 11.0 99.00 111.0", rule.Other: "100 102 200 202 300 1000 1000000 0.1 1.1 1.7 10.1 100.0",
	},
	// French
	"one: i = 0,1; many: e = 0 and i != 0 and i % 1000000 = 0 and v = 0 or e != 0..5; other:": {
		rule.One: "0 1 0.0 1.5 1.99", rule.Many: "1000000 1c6 2c6 1.1c6 6e9", rule.Other: "2 17 100 1000 1000000.0 1c3 5e3 1.0001c3 2.0",
	},
	// Latvian
	"zero: n % 10 = 0 or n % 100 = 11..19 or v = 2 and f % 100 = 11..19; one: n % 10 = 1 and n % 100 != 11 or v = 2 and f % 10 = 1 and f % 100 != 11 or v != 2 and f % 10 = 1; other:": {
		rule.Zero: "0 10 20 11 19 100 1000 0.0 10.0 11.0 2.11 1.19 1.12c0", rule.One: "1 21 31 101 0.1 1.0 1.1 2.1 10.1 0.21 1.121", rule.Other: "2 9 22 102 0.2 0.9 1.2 10.2 2.00 0.20",
	},
	// Lithuanian
	"one: n % 10 = 1 and n % 100 != 11..19; few: n % 10 = 2..9 and n % 100 != 11..19; many: f != 0; other:": {
		rule.One: "1 21 101 1001 1.0 21.0", rule.Few: "2 9 22 29 102 2.0 9.0", rule.Many: "0.1 0.9 1.1 1.7 10.1 1000.1", rule.Other: "0 10 20 11 30 100 0.0 10.0 11.0",
	},
	// Russian
	"many: v = 0 and i % 10 = 0 or v = 0 and i % 10 = 5..9 or v = 0 and i % 100 = 11..14; few: v = 0 and i % 10 = 2..4 and i % 100 != 12..14; other:; one: v = 0 and i % 10 = 1 and i % 100 != 11": {
		rule.One: "1 21 31 101 1001 1000000000000000000000000021", rule.Few: "2 4 22 34 102 1002", rule.Many: "0 5 11 14 19 100 111 1000 1000000 1c6", rule.Other: "0.0 1.5 10.0 100.0 1.1",
	},
	// Danish
	"one: n = 1 or t != 0 and i = 0,1; other:": {
		rule.One: "1 1.0 0.1 1.6 0.01 1.50", rule.Other: "0 2 16 0.0 2.0 3.4 10.0",
	},
	// Manx
	"two: v = 0 and i % 10 = 2; one: v = 0 and i % 10 = 1; many: v != 0; few: v = 0 and i % 100 = 0,20,40,60,80": {
		rule.One: "1 11 21 101", rule.Two: "2 12 102", rule.Few: "0 20 40 60 80 100 1000", rule.Many: "0.0 1.5 10.0", rule.Other: "3 10 19 103 1003",
	},
}

func TestPickByRulesOfLanguages(t *testing.T) {
	for text, numbers := range languages {
		list := rules(t, text)
		for c, samples := range numbers {
			for _, s := range strings.Fields(samples) {
				if got := Pick(list, read(t, s)); got != c {
					t.Errorf("by %s the category of %s is %s, not %s", text, s, got, c)
				}
			}
		}
	}
}

func TestNothingIsTurned(t *testing.T) {
	list := rules(t, "two: n = 2,3 and v = 0 or i = 1; one: n % 10 = 1..2; other: @x")
	written := list.String()
	first := Pick(list, read(t, "12"))
	Pick(list, read(t, "2"))
	if list.String() != written || Pick(list, read(t, "12")) != first {
		t.Error("rules are turned by being asked")
	}
}
