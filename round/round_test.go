package round

import (
	"math"
	"math/big"
	"math/rand"
	"strconv"
	"strings"
	"testing"

	"florin/dec"
)

// modes is all modes there are, in the chapter's order.
var modes = []Mode{HalfEven, HalfUp, HalfDown, Up, Down, Ceil, Floor}

// noModes is numbers that aren't modes.
var noModes = []Mode{-1, 7, 8, 100, -7, math.MaxInt, math.MinInt}

// read is the decimal that a text is.
func read(t *testing.T, s string) dec.Dec {
	t.Helper()
	d, e := dec.Parse(s)
	if e != 0 {
		t.Fatalf("%q is no decimal", s)
	}
	return d
}

// inUnits is a decimal as a whole number of units of ten to the power of low, which is not above its exponent.
func inUnits(t *testing.T, d dec.Dec, low int) *big.Int {
	t.Helper()
	d = d.Norm()
	if d.Zero() {
		return new(big.Int)
	}
	n, ok := new(big.Int).SetString(d.Digits+strings.Repeat("0", d.Exp-low), 10)
	if !ok {
		t.Fatalf("%v has no units of e%d", d, low)
	}
	if d.Neg {
		n.Neg(n)
	}
	return n
}

// chosen is the multiple of unit to which x is rounded, word by word as the chapter says it.
func chosen(x, unit *big.Int, m Mode) *big.Int {
	count, rest := new(big.Int).DivMod(x, unit, new(big.Int)) // the rest isn't below 0
	if rest.Sign() == 0 {
		return x
	}
	less := new(big.Int).Mul(count, unit)
	greater := new(big.Int).Add(less, unit)
	nearer, farther := less, greater // to nought, and from it
	if greater.CmpAbs(less) < 0 {
		nearer, farther = greater, less
	}
	switch m {
	case Up:
		return farther
	case Down:
		return nearer
	case Ceil:
		return greater
	case Floor:
		return less
	}
	switch new(big.Int).Sub(x, less).Cmp(new(big.Int).Sub(greater, x)) {
	case -1:
		return less
	case 1:
		return greater
	}
	switch {
	case m == HalfUp:
		return farther
	case m == HalfDown:
		return nearer
	case count.Bit(0) == 0:
		return less
	}
	return greater
}

// rounded is x rounded to a multiple of inc, which is above 0, by whole numbers.
func rounded(t *testing.T, x, inc dec.Dec, m Mode) dec.Dec {
	t.Helper()
	low := min(x.Norm().Exp, inc.Norm().Exp)
	n := chosen(inUnits(t, x, low), inUnits(t, inc, low), m)
	return dec.Made(n.Sign() < 0, new(big.Int).Abs(n).String(), low)
}

// decimals is decimals of all sorts: 0, whole numbers, halves and what lies beside them, not all in their normal form.
func decimals() []dec.Dec {
	list := []dec.Dec{
		{}, {Neg: true}, {Digits: "000", Exp: 4}, {Digits: "x5", Exp: 1}, {Neg: true, Digits: "5.5"},
		{Digits: "0025"}, {Neg: true, Digits: "002500", Exp: -3}, {Digits: "50", Exp: -2}, {Digits: "1500", Exp: -3},
		{Digits: "9999", Exp: -2}, {Neg: true, Digits: "9995", Exp: -3}, {Digits: "1", Exp: 12}, {Neg: true, Digits: "1", Exp: -12},
		{Digits: strings.Repeat("9", 60), Exp: -30}, {Neg: true, Digits: strings.Repeat("4", 30) + "5", Exp: -10},
		{Digits: "5" + strings.Repeat("0", 40) + "1", Exp: -41}, {Digits: "4" + strings.Repeat("9", 40), Exp: -40},
	}
	for n := range 61 {
		list = append(list, dec.Dec{Digits: strconv.Itoa(n), Exp: -1}, dec.Dec{Neg: true, Digits: strconv.Itoa(n), Exp: -1})
	}
	source := rand.New(rand.NewSource(3))
	for range 60 {
		digits := make([]byte, source.Intn(9))
		for i := range digits {
			digits[i] = "0000123455556789999"[source.Intn(19)]
		}
		list = append(list, dec.Dec{Neg: source.Intn(2) == 0, Digits: string(digits), Exp: source.Intn(13) - 8})
	}
	return list
}

// P3.1

func TestModesInOrder(t *testing.T) {
	for i, m := range modes {
		if int(m) != i {
			t.Errorf("mode %d of the chapter is %d", i, m)
		}
	}
}

func TestValid(t *testing.T) {
	for _, m := range modes {
		if !m.Valid() {
			t.Errorf("%d isn't Valid", m)
		}
	}
	for _, m := range noModes {
		if m.Valid() {
			t.Errorf("%d is Valid", m)
		}
	}
}

func TestModes(t *testing.T) {
	cases := []struct {
		x    string
		want [7]string // HalfEven, HalfUp, HalfDown, Up, Down, Ceil, Floor
	}{
		{"2.5", [7]string{"2", "3", "2", "3", "2", "3", "2"}}, {"-2.5", [7]string{"-2", "-3", "-2", "-3", "-2", "-2", "-3"}},
		{"3.5", [7]string{"4", "4", "3", "4", "3", "4", "3"}}, {"-3.5", [7]string{"-4", "-4", "-3", "-4", "-3", "-3", "-4"}},
		{"2.49", [7]string{"2", "2", "2", "3", "2", "3", "2"}}, {"-2.49", [7]string{"-2", "-2", "-2", "-3", "-2", "-2", "-3"}},
		{"2.51", [7]string{"3", "3", "3", "3", "2", "3", "2"}}, {"-2.51", [7]string{"-3", "-3", "-3", "-3", "-2", "-2", "-3"}},
		{"3.49", [7]string{"3", "3", "3", "4", "3", "4", "3"}}, {"3.51", [7]string{"4", "4", "4", "4", "3", "4", "3"}},
		{"2.500000000000000000001", [7]string{"3", "3", "3", "3", "2", "3", "2"}},
		{"-3.499999999999999999999", [7]string{"-3", "-3", "-3", "-4", "-3", "-3", "-4"}},
		{"0.5", [7]string{"0", "1", "0", "1", "0", "1", "0"}}, {"-0.5", [7]string{"0", "-1", "0", "-1", "0", "0", "-1"}},
		{"0.001", [7]string{"0", "0", "0", "1", "0", "1", "0"}}, {"-0.001", [7]string{"0", "0", "0", "-1", "0", "0", "-1"}},
		{"9.5", [7]string{"10", "10", "9", "10", "9", "10", "9"}}, {"-99.5", [7]string{"-100", "-100", "-99", "-100", "-99", "-99", "-100"}},
		{"7", [7]string{"7", "7", "7", "7", "7", "7", "7"}}, {"-70", [7]string{"-70", "-70", "-70", "-70", "-70", "-70", "-70"}},
		{"0", [7]string{"0", "0", "0", "0", "0", "0", "0"}},
	}
	for _, c := range cases {
		x := read(t, c.x)
		for i, m := range modes {
			for name, got := range map[string]dec.Dec{"At": At(x, 0, m), "Step": Step(x, dec.Made(false, "1", 0), m)} {
				if want := read(t, c.want[i]); got != want {
					t.Errorf("%s: %s by mode %d is %v, not %v", name, c.x, m, got, want)
				}
			}
		}
	}
}

// P3.2: At

func TestAt(t *testing.T) {
	cases := []struct {
		x     string
		place int
		m     Mode
		want  string
	}{
		{"123.45", -2, Up, "123.45"}, {"123.45", -3, Up, "123.45"}, {"123.45", -1, HalfEven, "123.4"}, {"123.45", -1, HalfUp, "123.5"}, {"123.45", -1, HalfDown, "123.4"},
		{"123.35", -1, HalfEven, "123.4"}, {"123.45", 1, HalfEven, "120"}, {"125", 1, HalfEven, "120"}, {"135", 1, HalfEven, "140"},
		{"123.45", 2, Ceil, "200"}, {"123.45", 2, Floor, "100"}, {"-123.45", 2, Ceil, "-100"}, {"-123.45", 2, Floor, "-200"},
		{"123.45", 3, HalfUp, "0"}, {"500", 3, HalfUp, "1000"}, {"500", 3, HalfEven, "0"}, {"500.01", 3, HalfEven, "1000"}, {"499.99", 3, HalfUp, "0"},
		{"123.45", 9, Up, "1e9"}, {"-123.45", 9, Up, "-1e9"}, {"-123.45", 9, Down, "0"}, {"123.45", 9, Floor, "0"}, {"-123.45", 9, Ceil, "0"},
		{"999.5", 0, HalfUp, "1000"}, {"9995", 1, HalfEven, "10000"}, {"1200", 2, Up, "1200"}, {"12e5", 2, Up, "12e5"},
		{"0", 5, Up, "0"}, {"0", -5, Floor, "0"},
	}
	for _, c := range cases {
		if got, want := At(read(t, c.x), c.place, c.m), read(t, c.want); got != want {
			t.Errorf("At(%s, %d, %d) = %v, not %v", c.x, c.place, c.m, got, want)
		}
	}
}

func TestAtAsWholeNumbersAreRounded(t *testing.T) {
	for _, x := range decimals() {
		for place := -14; place <= 14; place++ {
			for _, m := range modes {
				want := rounded(t, x, dec.Made(false, "1", place), m)
				if got := At(x, place, m); got != want {
					t.Fatalf("At(%v, %d, %d) = %v, not %v", x, place, m, got, want)
				}
			}
		}
	}
}

func TestAtHoldsPlaces(t *testing.T) {
	great, small := dec.Made(false, "123", 29999), dec.Made(true, "123", -30000)
	cases := []struct {
		x     dec.Dec
		place int
		m     Mode
		want  dec.Dec
	}{
		{great, 30000, Down, dec.Made(false, "12", 30000)}, {great, 30001, Down, dec.Made(false, "12", 30000)},
		{great, 30002, Up, dec.Made(false, "13", 30000)}, {great, math.MaxInt, Floor, dec.Made(false, "12", 30000)},
		{great, 29999, Up, great}, {great, -30000, Up, great}, {great, math.MinInt, Up, great},
		{small, -30000, Up, small}, {small, -30001, Up, small}, {small, math.MinInt, Up, small},
		{small, -29999, Up, dec.Made(true, "13", -29999)}, {small, -29998, Down, dec.Made(true, "1", -29998)},
		{small, 30000, Up, dec.Made(true, "1", 30000)}, {small, 30000, Ceil, dec.Dec{}}, {small, 30001, HalfUp, dec.Dec{}}, {small, math.MaxInt, Floor, dec.Made(true, "1", 30000)},
		{dec.Made(false, "5", 29999), 30000, HalfUp, dec.Made(false, "1", 30000)}, {dec.Made(false, "5", 29999), 30000, HalfEven, dec.Dec{}},
		{dec.Made(false, "15", 29999), math.MaxInt, HalfEven, dec.Made(false, "2", 30000)},
		{dec.Made(false, "96", 29999), 30000, Up, dec.Made(false, "10", 30000)}, // the exponent is held
		{dec.Dec{Digits: "12300", Exp: 40000}, 5, Up, dec.Made(false, "123", 30000)},
		{dec.Dec{Digits: "1", Exp: math.MinInt}, 0, Up, dec.Made(false, "1", 0)},
	}
	for _, c := range cases {
		if got := At(c.x, c.place, c.m); got != c.want {
			t.Errorf("At(%v, %d, %d) = %v, not %v", c.x, c.place, c.m, got, c.want)
		}
	}
}

func TestAtOfManyDigits(t *testing.T) {
	x := dec.Made(false, strings.Repeat("9", 70000)+"5", -30000)
	if got, want := At(x, -29999, HalfUp), dec.Made(false, "1", 40001); got != want {
		t.Errorf("of 70,001 digits: %.40v, not %v", got, want)
	}
	if got, want := At(x, 30000, Down), dec.Made(false, strings.Repeat("9", 10001), 30000); got != want {
		t.Errorf("the first digits of 70,001: %.40v", got)
	}
}

// P3.2: Sig

func TestSig(t *testing.T) {
	cases := []struct {
		x    string
		n    int
		m    Mode
		want string
	}{
		{"123.45", 1, HalfUp, "100"}, {"123.45", 2, HalfUp, "120"}, {"123.45", 3, HalfUp, "123"}, {"123.45", 4, HalfUp, "123.5"}, {"123.45", 4, HalfEven, "123.4"},
		{"123.45", 5, Up, "123.45"}, {"123.45", 6, Up, "123.45"}, {"123.45", 30000, Up, "123.45"}, {"123.45", 30001, Up, "123.45"}, {"123.45", math.MaxInt, Up, "123.45"},
		{"123.45", 0, HalfUp, "100"}, {"163.45", 0, HalfUp, "200"}, {"123.45", -1, HalfUp, "100"}, {"-163.45", math.MinInt, HalfUp, "-200"},
		{"0.00123", 1, Up, "0.002"}, {"0.00123", 2, Down, "0.0012"}, {"-0.00125", 2, HalfEven, "-0.0012"}, {"-0.00135", 2, HalfEven, "-0.0014"},
		{"999", 2, HalfUp, "1000"}, {"9.95", 2, HalfUp, "10"}, {"12e9", 1, Ceil, "2e10"}, {"-12e9", 1, Ceil, "-1e10"}, {"-12e9", 1, Floor, "-2e10"},
		{"7", 1, Up, "7"}, {"700", 1, Up, "700"},
	}
	for _, c := range cases {
		if got, want := Sig(read(t, c.x), c.n, c.m), read(t, c.want); got != want {
			t.Errorf("Sig(%s, %d, %d) = %v, not %v", c.x, c.n, c.m, got, want)
		}
	}
	for _, m := range modes {
		for _, n := range []int{math.MinInt, -1, 0, 1, 7, 30000, math.MaxInt} {
			for _, x := range []dec.Dec{{}, {Neg: true, Digits: "00", Exp: 9}, {Digits: "1-", Exp: 2}} {
				if got := Sig(x, n, m); got != (dec.Dec{}) {
					t.Errorf("Sig(%v, %d, %d) = %v, not 0", x, n, m, got)
				}
			}
		}
	}
}

func TestSigAsWholeNumbersAreRounded(t *testing.T) {
	for _, x := range decimals() {
		first, ok := x.Mag()
		if !ok {
			continue
		}
		for n := -2; n <= 12; n++ {
			place := first - max(n, 1) + 1
			for _, m := range modes {
				want := rounded(t, x, dec.Made(false, "1", place), m)
				if got := Sig(x, n, m); got != want {
					t.Fatalf("Sig(%v, %d, %d) = %v, not %v", x, n, m, got, want)
				}
			}
		}
	}
}

func TestSigAtTheBounds(t *testing.T) {
	long := strings.Repeat("1", 30002)
	cases := []struct {
		x    dec.Dec
		n    int
		m    Mode
		want dec.Dec
	}{
		{dec.Made(false, long, 0), 30000, Up, dec.Made(false, long[:29999]+"2", 2)},
		{dec.Made(false, long, 0), 30001, Up, dec.Made(false, long[:29999]+"2", 2)}, // counts as 30,000
		{dec.Made(false, long, 0), math.MaxInt, Down, dec.Made(false, long[:30000], 2)},
		{dec.Made(true, long, -30000), 29999, Down, dec.Made(true, long[:29999], -29997)},
		{dec.Made(false, "17", -30000), 2, Up, dec.Made(false, "17", -30000)}, {dec.Made(false, "17", -30000), 9, Up, dec.Made(false, "17", -30000)},
		{dec.Made(false, "17", -30000), 1, Up, dec.Made(false, "2", -29999)},
		{dec.Made(false, "17", 30000), 1, Up, dec.Made(false, "17", 30000)}, // no place lies above 30,000
		{dec.Made(false, "1777", 29998), 1, Up, dec.Made(false, "18", 30000)},
	}
	for _, c := range cases {
		if got := Sig(c.x, c.n, c.m); got != c.want {
			t.Errorf("Sig(%.20v.., %d, %d) = %.40v, not %.40v", c.x, c.n, c.m, got, c.want)
		}
	}
}

// P3.2: Step

func TestStep(t *testing.T) {
	cases := []struct {
		x, inc string
		want   [7]string // HalfEven, HalfUp, HalfDown, Up, Down, Ceil, Floor
	}{
		{"1.03", "0.05", [7]string{"1.05", "1.05", "1.05", "1.05", "1", "1.05", "1"}},
		{"-1.02", "0.05", [7]string{"-1", "-1", "-1", "-1.05", "-1", "-1", "-1.05"}},
		{"1.025", "0.05", [7]string{"1", "1.05", "1", "1.05", "1", "1.05", "1"}},
		{"1.075", "0.05", [7]string{"1.1", "1.1", "1.05", "1.1", "1.05", "1.1", "1.05"}},
		{"-1.075", "0.05", [7]string{"-1.1", "-1.1", "-1.05", "-1.1", "-1.05", "-1.05", "-1.1"}},
		{"1.0249999", "0.05", [7]string{"1", "1", "1", "1.05", "1", "1.05", "1"}},
		{"1.0250001", "0.05", [7]string{"1.05", "1.05", "1.05", "1.05", "1", "1.05", "1"}},
		{"10", "4", [7]string{"8", "12", "8", "12", "8", "12", "8"}}, {"14", "4", [7]string{"16", "16", "12", "16", "12", "16", "12"}},
		{"10.5", "7", [7]string{"14", "14", "7", "14", "7", "14", "7"}}, {"3.5", "7", [7]string{"0", "7", "0", "7", "0", "7", "0"}},
		{"10.4", "7", [7]string{"7", "7", "7", "14", "7", "14", "7"}}, {"10.6", "7", [7]string{"14", "14", "14", "14", "7", "14", "7"}},
		{"21", "7", [7]string{"21", "21", "21", "21", "21", "21", "21"}}, {"-0.75", "0.25", [7]string{"-0.75", "-0.75", "-0.75", "-0.75", "-0.75", "-0.75", "-0.75"}},
		{"1e3", "300", [7]string{"900", "900", "900", "1200", "900", "1200", "900"}}, {"150", "300", [7]string{"0", "300", "0", "300", "0", "300", "0"}},
		{"0", "0.3", [7]string{"0", "0", "0", "0", "0", "0", "0"}}, {"0.001", "25e3", [7]string{"0", "0", "0", "25000", "0", "25000", "0"}},
	}
	for _, c := range cases {
		x, inc := read(t, c.x), read(t, c.inc)
		for i, m := range modes {
			if got, want := Step(x, inc, m), read(t, c.want[i]); got != want {
				t.Errorf("Step(%s, %s, %d) = %v, not %v", c.x, c.inc, m, got, want)
			}
		}
	}
}

func TestStepAsWholeNumbersAreRounded(t *testing.T) {
	incs := []dec.Dec{
		{Digits: "1"}, {Digits: "0500", Exp: -4}, {Digits: "25", Exp: -2}, {Digits: "3"}, {Digits: "7", Exp: -6}, {Digits: "12", Exp: 1}, {Digits: "2", Exp: 9},
		{Digits: "999999999", Exp: -9}, {Digits: "999999999", Exp: -4}, {Digits: "123456788", Exp: 3}, {Digits: "1000000000", Exp: -9}, {Digits: "50000000000000000000", Exp: -20},
	}
	for _, x := range decimals() {
		for _, inc := range incs {
			for _, m := range modes {
				want := rounded(t, x, inc, m)
				if got := Step(x, inc, m); got != want {
					t.Fatalf("Step(%v, %v, %d) = %v, not %v", x, inc, m, got, want)
				}
			}
		}
	}
}

func TestStepIncrementsAtTheBounds(t *testing.T) {
	x := dec.Made(false, "2700000004", 0)
	taken := []struct {
		inc  dec.Dec
		m    Mode
		want dec.Dec
	}{
		{dec.Dec{Digits: "1000000000"}, HalfUp, dec.Made(false, "3", 9)}, {dec.Dec{Digits: "999999999"}, Down, dec.Made(false, "1999999998", 0)},
		{dec.Dec{Digits: "10000000000"}, Up, dec.Made(false, "1", 10)}, {dec.Dec{Digits: "0009000000000000", Exp: -3}, Up, dec.Made(false, "9", 9)}, // noughts at the end aren't Digits
		{dec.Dec{Digits: "5", Exp: 30000}, Up, dec.Made(false, "5", 30000)}, {dec.Dec{Digits: "5", Exp: math.MaxInt}, Down, dec.Dec{}}, {dec.Dec{Digits: "3", Exp: math.MinInt}, Up, dec.Made(false, "27000000040"+strings.Repeat("0", 29998)+"2", -30000)},
	}
	for _, c := range taken {
		if got := Step(x, c.inc, c.m); got != c.want {
			t.Errorf("Step(%v, %v, %d) = %.60v, not %.60v", x, c.inc, c.m, got, c.want)
		}
	}
	refused := []dec.Dec{
		{}, {Neg: true}, {Digits: "0000"}, {Digits: "0", Exp: 9}, {Neg: true, Digits: "5"}, {Neg: true, Digits: "1", Exp: -2}, {Digits: "5 "}, {Digits: "-5"},
		{Digits: "1000000001"}, {Digits: "1000000001", Exp: -9}, {Digits: "10000000010", Exp: -1}, {Digits: "9999999999"}, {Digits: "12345678901234567"}, {Digits: "100000000000000001"}, {Digits: strings.Repeat("1", 19)}, {Digits: strings.Repeat("3", 100), Exp: -90},
		{Digits: "18446744073709551617"}, // wraps round to 1
	}
	for _, inc := range refused {
		for _, m := range modes {
			for _, x := range decimals() {
				if got := Step(x, inc, m); got != x.Norm() {
					t.Fatalf("Step(%v, %v, %d) = %v", x, inc, m, got)
				}
			}
		}
	}
}

// P3.2: modes that aren't Valid, and normal forms

func TestNoModes(t *testing.T) {
	for _, m := range noModes {
		for _, x := range decimals() {
			for name, got := range map[string]dec.Dec{"At": At(x, 1, m), "Sig": Sig(x, 1, m), "Step": Step(x, dec.Made(false, "7", 0), m), "no Step": Step(x, dec.Dec{}, m)} {
				if got != x.Norm() {
					t.Errorf("%s of %v by %d is %v", name, x, m, got)
				}
			}
		}
	}
}

func TestAnswersAreNormal(t *testing.T) {
	for _, x := range append(decimals(), dec.Dec{Digits: "00500", Exp: 31000}, dec.Dec{Neg: true, Digits: "00500", Exp: -31000}) {
		for _, m := range modes {
			for _, got := range []dec.Dec{At(x, -20, m), At(x, -1, m), At(x, 1, m), Sig(x, 3, m), Step(x, dec.Dec{Digits: "0500", Exp: -3}, m), Step(x, dec.Dec{}, m)} {
				if got != got.Norm() {
					t.Errorf("of %v by %d: %#v isn't in its normal form", x, m, got)
				}
			}
		}
	}
}
