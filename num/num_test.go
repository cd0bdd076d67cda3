package num

import (
	"math"
	"math/big"
	"math/rand"
	"strings"
	"testing"

	"florin/api"
)

// wrong is texts that aren't digits: the bytes next to 0 and 9, signs, blanks, digits of other scripts, bytes that are no UTF-8.
var wrong = []string{"/", ":", "a", "-1", "+1", " 1", "1 ", "1.5", "1e3", "1_0", "12a", "a12", "1a2", "0x1", "\x00", "1\x00", "٣", "1٣", "\xff", "\xb0", "１"}

// right is digits: none, noughts alone, noughts ahead, and more of them than an int holds.
var right = []string{"", "0", "00", "1", "9", "007", "10", "000123456789", "999999999999999999", "1000000000000000000", "18446744073709551616", strings.Repeat("9", 1000), strings.Repeat("0", 1000)}

// mixed is digits of many lengths, the same ones in each run.
func mixed() []string {
	source := rand.New(rand.NewSource(1))
	list := append([]string{}, right...)
	for size := range 40 {
		digits := make([]byte, size)
		for i := range digits {
			digits[i] = "0123456789900"[source.Intn(13)]
		}
		list = append(list, string(digits))
	}
	return list
}

// bigOf is the number that digits are, found by other means.
func bigOf(t *testing.T, digits string) *big.Int {
	t.Helper()
	n, ok := new(big.Int).SetString("0"+digits, 10)
	if !ok {
		t.Fatalf("%q is no number", digits)
	}
	return n
}

// digitsOf is a number's digits as the chapter wants them: 0 is no bytes.
func digitsOf(n *big.Int) string {
	if n.Sign() == 0 {
		return ""
	}
	return n.String()
}

// P1.1

func TestIs(t *testing.T) {
	for _, s := range right {
		if !Is(s) {
			t.Errorf("Is(%q) is false", s)
		}
	}
	for _, s := range wrong {
		if Is(s) {
			t.Errorf("Is(%q) is true", s)
		}
	}
}

func TestIsOfEachByte(t *testing.T) {
	for b := range 256 {
		want := strings.IndexByte("0123456789", byte(b)) >= 0
		if got := Is(string([]byte{byte(b)})); got != want {
			t.Errorf("Is of the byte %d: %v", b, got)
		}
	}
}

func TestTrim(t *testing.T) {
	cases := map[string]string{"": "", "0": "", "000": "", "7": "7", "007": "7", "0070": "70", "100": "100", "1001": "1001"}
	for s, want := range cases {
		if got := Trim(s); got != want {
			t.Errorf("Trim(%q) = %q, not %q", s, got, want)
		}
	}
	for _, s := range wrong {
		if got := Trim("00" + s); got != "" {
			t.Errorf("Trim(%q) = %q", "00"+s, got)
		}
	}
}

func TestCmp(t *testing.T) {
	cases := []struct {
		a, b string
		want int
	}{
		{"", "", 0}, {"", "0", 0}, {"000", "", 0}, {"", "1", -1}, {"1", "", 1},
		{"0010", "9", 1}, {"9", "0010", -1}, {"12", "12", 0}, {"012", "12", 0},
		{"2", "10", -1}, {"10", "2", 1}, {"199", "200", -1}, {"201", "200", 1},
		{"9999999999999999999", "10000000000000000000", -1},
	}
	for _, c := range cases {
		if got := Cmp(c.a, c.b); got != c.want {
			t.Errorf("Cmp(%q, %q) = %d, not %d", c.a, c.b, got, c.want)
		}
	}
}

func TestAdd(t *testing.T) {
	cases := []struct{ a, b, want string }{
		{"", "", ""}, {"0", "00", ""}, {"", "007", "7"}, {"007", "", "7"}, {"1", "2", "3"},
		{"999", "1", "1000"}, {"1", "999", "1000"}, {"5", "5", "10"}, {"0099", "1", "100"},
		{"999999999999999999", "1", "1000000000000000000"},
		{strings.Repeat("9", 1000), "1", "1" + strings.Repeat("0", 1000)},
	}
	for _, c := range cases {
		if got := Add(c.a, c.b); got != c.want {
			t.Errorf("Add(%q, %q) = %q, not %q", c.a, c.b, got, c.want)
		}
	}
}

func TestSub(t *testing.T) {
	cases := []struct {
		a, b, want string
		ok         bool
	}{
		{"", "", "", true}, {"0", "", "", true}, {"", "000", "", true}, {"5", "5", "", true},
		{"5", "0000005", "", true}, {"5", "0000004", "1", true}, {"1000", "1", "999", true},
		{"1000", "999", "1", true}, {"0100", "1", "99", true}, {"12", "", "12", true},
		{"1000000000000000000", "1", "999999999999999999", true},
		{"1", "2", "", false}, {"", "1", "", false}, {"0009", "10", "", false}, {"999", "1000", "", false},
	}
	for _, c := range cases {
		if got, ok := Sub(c.a, c.b); got != c.want || ok != c.ok {
			t.Errorf("Sub(%q, %q) = %q, %v, not %q, %v", c.a, c.b, got, ok, c.want, c.ok)
		}
	}
}

func TestTwoNumbersAgainstBig(t *testing.T) {
	list := mixed()
	for _, a := range list {
		for _, b := range list {
			x, y := bigOf(t, a), bigOf(t, b)
			if got := Cmp(a, b); got != x.Cmp(y) {
				t.Errorf("Cmp(%q, %q) = %d", a, b, got)
			}
			if got := Add(a, b); got != digitsOf(new(big.Int).Add(x, y)) {
				t.Errorf("Add(%q, %q) = %q", a, b, got)
			}
			want, wantOK := "", x.Cmp(y) >= 0
			if wantOK {
				want = digitsOf(new(big.Int).Sub(x, y))
			}
			if got, ok := Sub(a, b); got != want || ok != wantOK {
				t.Errorf("Sub(%q, %q) = %q, %v", a, b, got, ok)
			}
		}
	}
}

func TestTwoTextsOfWhichOneIsWrong(t *testing.T) {
	check := func(a, b string) {
		t.Helper()
		if got := Cmp(a, b); got != 0 {
			t.Errorf("Cmp(%q, %q) = %d", a, b, got)
		}
		if got := Add(a, b); got != "" {
			t.Errorf("Add(%q, %q) = %q", a, b, got)
		}
		if got, ok := Sub(a, b); got != "" || ok {
			t.Errorf("Sub(%q, %q) = %q, %v", a, b, got, ok)
		}
	}
	for _, s := range wrong {
		for _, other := range []string{"", "0", "1", "99999", s} {
			check(s, other)
			check(other, s)
		}
	}
}

// P1.2

func TestTimes(t *testing.T) {
	cases := []struct {
		a    string
		m    int
		want string
	}{
		{"", 0, ""}, {"", 5, ""}, {"000", 5, ""}, {"12", 0, ""}, {"12", 1, "12"}, {"0012", 1, "12"},
		{"12", 10, "120"}, {"99", 99, "9801"}, {"005", 2, "10"},
		{"12", api.MaxSmall, "12000000000"}, {"1", api.MaxSmall, "1000000000"},
		{"999999999999999999", 999999999, "999999998999999999000000001"},
		{strings.Repeat("9", 1000), api.MaxSmall, strings.Repeat("9", 1000) + "000000000"},
	}
	for _, c := range cases {
		if got := Times(c.a, c.m); got != c.want {
			t.Errorf("Times(%q, %d) = %q, not %q", c.a, c.m, got, c.want)
		}
	}
}

func TestDiv(t *testing.T) {
	cases := []struct {
		a    string
		m    int
		want string
		rest int
	}{
		{"1000", 7, "142", 6}, {"", 7, "", 0}, {"000", 7, "", 0}, {"6", 7, "", 6}, {"7", 7, "1", 0},
		{"001000", 7, "142", 6}, {"1000", 1, "1000", 0}, {"0012", 1, "12", 0},
		{"999999999", api.MaxSmall, "", 999999999}, {"1000000000", api.MaxSmall, "1", 0},
		{"1999999999", api.MaxSmall, "1", 999999999},
		{strings.Repeat("9", 1000), api.MaxSmall, strings.Repeat("9", 991), 999999999},
	}
	for _, c := range cases {
		if got, rest := Div(c.a, c.m); got != c.want || rest != c.rest {
			t.Errorf("Div(%q, %d) = %q, %d, not %q, %d", c.a, c.m, got, rest, c.want, c.rest)
		}
	}
}

func TestSmallNumbersAgainstBig(t *testing.T) {
	smalls := []int{0, 1, 2, 3, 7, 9, 10, 11, 99, 100, 65536, 123456789, 999999999, api.MaxSmall}
	for _, a := range mixed() {
		for _, m := range smalls {
			x, y := bigOf(t, a), big.NewInt(int64(m))
			if got := Times(a, m); got != digitsOf(new(big.Int).Mul(x, y)) {
				t.Errorf("Times(%q, %d) = %q", a, m, got)
			}
			if m == 0 {
				continue
			}
			want, wantRest := new(big.Int).QuoRem(x, y, new(big.Int))
			if got, rest := Div(a, m); got != digitsOf(want) || int64(rest) != wantRest.Int64() {
				t.Errorf("Div(%q, %d) = %q, %d", a, m, got, rest)
			}
		}
	}
}

func TestSmallNumbersOutOfBounds(t *testing.T) {
	for _, m := range []int{math.MinInt, -api.MaxSmall, -1, api.MaxSmall + 1, math.MaxInt} {
		for _, a := range right {
			if got := Times(a, m); got != "" {
				t.Errorf("Times(%q, %d) = %q", a, m, got)
			}
			if got, rest := Div(a, m); got != "" || rest != 0 {
				t.Errorf("Div(%q, %d) = %q, %d", a, m, got, rest)
			}
		}
	}
	for _, a := range right {
		if got, rest := Div(a, 0); got != "" || rest != 0 {
			t.Errorf("Div(%q, 0) = %q, %d", a, got, rest)
		}
	}
}

func TestOneTextThatIsWrong(t *testing.T) {
	for _, s := range wrong {
		for _, m := range []int{-1, 0, 1, 7, api.MaxSmall, api.MaxSmall + 1} {
			if got := Times(s, m); got != "" {
				t.Errorf("Times(%q, %d) = %q", s, m, got)
			}
			if got, rest := Div(s, m); got != "" || rest != 0 {
				t.Errorf("Div(%q, %d) = %q, %d", s, m, got, rest)
			}
		}
		if n, ok := Int(s); n != 0 || ok {
			t.Errorf("Int(%q) = %d, %v", s, n, ok)
		}
	}
}

func TestInt(t *testing.T) {
	cases := []struct {
		a    string
		want int
		ok   bool
	}{
		{"", 0, true}, {"0", 0, true}, {"0000000000000000000000000", 0, true}, {"5", 5, true}, {"120", 120, true},
		{"000000000000000000000000123", 123, true},
		{"999999999999999999", 999999999999999999, true},
		{"0999999999999999999", 999999999999999999, true},
		{"100000000000000000", 100000000000000000, true},
		{"1000000000000000000", 0, false}, {"1234567890123456789", 0, false}, {"9223372036854775808", 0, false},
		{strings.Repeat("9", 1000), 0, false},
	}
	for _, c := range cases {
		if got, ok := Int(c.a); got != c.want || ok != c.ok {
			t.Errorf("Int(%q) = %d, %v, not %d, %v", c.a, got, ok, c.want, c.ok)
		}
	}
}

func TestOf(t *testing.T) {
	cases := map[int]string{
		0: "", 1: "1", 9: "9", 10: "10", 120: "120", 999999999999999999: "999999999999999999",
		math.MaxInt: "9223372036854775807", -1: "", -120: "", math.MinInt: "",
	}
	for n, want := range cases {
		if got := Of(n); got != want {
			t.Errorf("Of(%d) = %q, not %q", n, got, want)
		}
	}
}

func TestZeros(t *testing.T) {
	cases := map[int]int{
		math.MinInt: 0, -1: 0, 0: 0, 1: 1, 3: 3, 59999: 59999, 60000: 60000, 60001: 60000, math.MaxInt: 60000,
	}
	for n, want := range cases {
		if got := Zeros(n); got != strings.Repeat("0", want) {
			t.Errorf("Zeros(%d) has %d bytes, not %d noughts", n, len(got), want)
		}
	}
}
