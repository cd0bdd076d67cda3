package sample

import (
	"math/big"
	"math/rand"
	"reflect"
	"slices"
	"strings"
	"testing"

	"florin/api"
	"florin/operand"
	"florin/rule"
)

// nines and noughts are so many of these digits.
func nines(n int) string   { return strings.Repeat("9", n) }
func noughts(n int) string { return strings.Repeat("0", n) }

// integers is samples of @integer: a number each, or two with ~ between.
func integers(texts ...string) Set { return Set{Items: items(texts)} }

// decimals is samples of @decimal.
func decimals(texts ...string) Set { return Set{Decimal: true, Items: items(texts)} }

// items is the items that texts are.
func items(texts []string) []Item {
	var list []Item
	for _, s := range texts {
		lo, hi, _ := strings.Cut(s, "~")
		list = append(list, Item{Lo: lo, Hi: hi})
	}
	return list
}

// more is samples with others behind them.
func more(x Set) Set {
	x.More = true
	return x
}

// wantSets fails unless a text is just these samples.
func wantSets(t *testing.T, s string, want ...Set) {
	t.Helper()
	got, e, at := Parse(s)
	if e != api.OK || at != 0 || len(got)+len(want) > 0 && !reflect.DeepEqual(got, want) {
		t.Errorf("%q is %v, %d at %d, not %v", s, got, e, at, want)
	}
}

// wantError fails unless a text has just this error at this place.
func wantError(t *testing.T, s string, e api.Errno, at int) {
	t.Helper()
	got, gotE, gotAt := Parse(s)
	if len(got) != 0 || gotE != e || gotAt != at {
		t.Errorf("%q is %v, %d at %d, not %d at %d", s, got, gotE, gotAt, e, at)
	}
}

// P8.1

func TestNoSamplesAtAll(t *testing.T) {
	for _, s := range []string{"", " ", "      ", strings.Repeat(" ", 100000)} {
		wantSets(t, s)
	}
}

func TestKinds(t *testing.T) {
	wantSets(t, "@integer 1", integers("1"))
	wantSets(t, "@decimal 1", decimals("1"))
	wantSets(t, "@decimal 1.0", decimals("1.0"))
	wantSets(t, "@integer 1 @decimal 1.0", integers("1"), decimals("1.0"))
	wantSets(t, "@decimal 1.0 @integer 1", decimals("1.0"), integers("1"))
	wantSets(t, "@integer 1 @integer 1 @decimal 1.0 @decimal 2.0 @integer 3", integers("1"), integers("1"), decimals("1.0"), decimals("2.0"), integers("3"))
	wantSets(t, "@integer 0, 2~16, 1c6, … @decimal 0.0~1.5, 1.1c6, …", more(integers("0", "2~16", "1c6")), more(decimals("0.0~1.5", "1.1c6")))
}

func TestItems(t *testing.T) {
	wantSets(t, "@integer 0, 1, 0, 17", integers("0", "1", "0", "17"))
	wantSets(t, "@integer 2~4", integers("2~4"))
	wantSets(t, "@integer 2~2", integers("2~2"))
	wantSets(t, "@integer 2~4, 3, 3~5, 0", integers("2~4", "3", "3~5", "0"))
	wantSets(t, "@decimal 0.8~1.1, 5, 0~3, 1.00~1.25", decimals("0.8~1.1", "5", "0~3", "1.00~1.25"))
	wantSets(t, "@integer 08~11, 1~003, 007~7, 7~007", integers("08~11", "1~003", "007~7", "7~007"))
	wantSets(t, "@decimal 00.8~1.1, 0.8~01.1", decimals("00.8~1.1", "0.8~01.1"))
}

func TestMore(t *testing.T) {
	for _, sign := range []string{"…", "...", "\xe2\x80\xa6"} {
		wantSets(t, "@integer 1,"+sign, more(integers("1")))
		wantSets(t, "@integer 1, "+sign+"  ", more(integers("1")))
		wantSets(t, "@decimal 1.0, 2.0~2.5 , "+sign, more(decimals("1.0", "2.0~2.5")))
		wantSets(t, "@integer 1, "+sign+" @integer 2", more(integers("1")), integers("2"))
		wantSets(t, "@integer 1,"+sign+"@decimal 2,"+sign+"@integer 3", more(integers("1")), more(decimals("2")), integers("3"))
	}
}

func TestNumbers(t *testing.T) {
	long := nines(1000)
	for _, s := range []string{"0", "9", "00", "007", "10", "1c0", "1e0", "1c6", "1e6", "1c06", "1c10000", "1e000010000", "0c5", "1.5c1", "1.25e2", "1.25e3", "0.0c1", "1.0c6", long, "0." + nines(999) + "c999", long + "c10000"} {
		wantSets(t, "@integer "+s, integers(s))
		wantSets(t, "@decimal "+s, decimals(s))
	}
	for _, s := range []string{"0.0", "1.50", "00.5", "1.5c0", "1.25c1", "1.25e1", "0." + nines(999), nines(999) + ".9", "0.00c1"} {
		wantSets(t, "@decimal "+s, decimals(s))
		wantError(t, "@integer "+s, api.ErrForm, 9)
		wantError(t, "@integer 1, "+s, api.ErrForm, 12)
		wantError(t, "@integer   "+s+" , …", api.ErrForm, 11)
	}
}

func TestBlanksBetweenAllAndNone(t *testing.T) {
	for _, sign := range []string{"…", "..."} {
		tokens := []string{"@integer", "0", ",", "2", "~", "4", ",", "1c6", ",", sign, "@decimal", "0.8", "~", "1.1", "@integer", "7", ",", sign}
		want := []Set{more(integers("0", "2~4", "1c6")), decimals("0.8~1.1"), more(integers("7"))}
		for _, gap := range []string{"", " ", "  ", "       "} {
			wantSets(t, gap+strings.Join(tokens, gap)+gap, want...)
		}
		for i := range tokens {
			wantSets(t, strings.Join(tokens[:i], "")+"    "+strings.Join(tokens[i:], ""), want...)
			wantSets(t, strings.Join(tokens[:i], " ")+strings.Join(tokens[i:], " "), want...)
		}
	}
}

func TestOtherBytesAreNoBlanks(t *testing.T) {
	for _, b := range []string{"\t", "\n", "\r", "\x00", "\u00a0", "\xff", "_", "#", ";"} {
		wantError(t, b+"@integer 1", api.ErrForm, 0)
		wantError(t, "@integer"+b+"1", api.ErrForm, 8)
		wantError(t, "@integer 1"+b+"~2", api.ErrForm, 10)
		wantError(t, "@integer 1~"+b+"2", api.ErrForm, 11)
		wantError(t, "@integer 1"+b, api.ErrForm, 10)
		wantError(t, "@integer 1,"+b+"2", api.ErrForm, 11)
		wantError(t, "@integer 1,…"+b, api.ErrForm, 14)
		wantError(t, "@integer 1,..."+b+"@decimal 1", api.ErrForm, 14)
	}
}

// P8.2

// faults is texts that aren't samples, by their errors; the place of each error is that of the mark ^, which isn't part of the text.
var faults = map[api.Errno][]string{
	api.ErrForm: {
		// the kind
		"^1", "^1.0", "^,", "^~", "^…", "^...", "^@", "^x", "^integer 1", "^@Integer 1", "^@int 1", "^@decima", "^@ integer 1", "^@in teger 1", "^@decim al 1.0", "^@@integer 1", "^é", "^\xff",
		// the first number
		"@integer^", "@decimal^", "@integer ^@integer 1", "@integer^@decimal 1", "@integer ^, 1", "@integer ^~1", "@integer ^…", "@integer ^...", "@integer^s 1", "@decimal^s 1", "@integer ^x", "@integer ^-1", "@integer ^+1", "@integer ^C6", "@integer ^٣",
		// numbers that layer 5 doesn't read
		"@decimal ^.", "@decimal ^..", "@decimal ^.5", "@decimal ^5.", "@decimal ^1..5", "@decimal ^1...", "@decimal ^1.5.5", "@decimal ^c", "@decimal ^e", "@decimal ^c5", "@decimal ^1c", "@decimal ^1e", "@decimal ^1.c5", "@decimal ^1c5.", "@decimal ^1c.5", "@decimal ^1cc5", "@decimal ^1ce5", "@decimal ^1c5c5", "@decimal ^1e5c5", "@decimal ^.c", "@integer^e1", "@integer ^1c", "@integer 1, ^..", "@integer 1, ^.", "@integer 1, ^..5", "@integer 1~^.", "@integer 1~^1c", "@integer 1~^...", "@decimal 1.0~^1.", "@decimal 1.0~^...",
		// digits behind the point of @integer
		"@integer ^1.5", "@integer ^1.0", "@integer 1, ^1.50", "@integer ^1.25c1", "@integer ^1.5c0~2", "@integer ^1.0~2.0", "@integer 1~^2.0", "@integer 3~^2.0", "@integer 1~^2000.5", "@integer 1c6~^1.5", "@integer 1, … @decimal 1.5 @integer ^1.5",
		// behind a number
		"@integer 1 ^2", "@integer 1 ^x", "@integer 1^x", "@integer 1^-2", "@integer 1^;", "@integer 1^…", "@integer 1 ^…", "@integer 1 ^...", "@integer 1 ^.5", "@integer 1 ^c6", "@integer 1 ^@", "@integer 1 ^@int", "@integer 1^C6", "@integer 1 ^e6", "@decimal 1.5 ^.5",
		// the second number
		"@integer 1~^", "@integer 1~^~2", "@integer 1~^,", "@integer 1~^, 2", "@integer 1~^…", "@integer 1~^@integer 2", "@integer 1~^x", "@integer 1~^-2", "@integer 1~2^~3", "@integer 1~2 ^3", "@integer 1~2 ^…", "@integer 1~2^x",
		// behind a comma
		"@integer 1,^", "@integer 1,^,", "@integer 1,^, 2", "@integer 1, ^~2", "@integer 1, ^@integer 2", "@integer 1, ^x", "@integer 1~2,^", "@integer 1,^\xe2", "@integer 1,^\xe2\x80", "@integer 1,^\xe2 \x80\xa6", "@integer 1,^.. .", "@integer 1,^. ..", "@integer 1,^. . .", "@integer 1,^\u2025", "@integer 1, ^⋯",
		// behind more
		"@integer 1, …^,", "@integer 1, …^, 2", "@integer 1, … ^2", "@integer 1, …^2", "@integer 1, …^…", "@integer 1, …^~", "@integer 1, …^x", "@integer 1, …^@", "@integer 1, …^.", "@integer 1, ...^,", "@integer 1, ...^2", "@integer 1, ...^.", "@integer 1, ...^...", "@integer 1, ...^c6", "@integer 1, ...^…", "@integer 1, ... ^2", "@integer 1, ...^x",
	},
	api.ErrLong: {
		"@integer ^1c10001", "@integer ^1e20000", "@integer ^1c99999999999999999999999", "@integer ^1" + noughts(1000), "@decimal ^" + noughts(1000) + ".0", "@decimal ^1." + nines(1000), "@integer 1, ^1c10001", "@integer 1~^1c10001", "@integer 1~^1" + noughts(1000), "@decimal 1.0~^" + nines(1001), "@integer ^1.5c10001", "@integer ^1." + nines(1000), "@integer ^1c10001~1.5", "@decimal 2.0~^" + noughts(999) + "1.0", "@integer ^1c10001 x",
	},
	api.ErrArg: {
		// a power
		"@integer 1c6~^2c6", "@integer 1e6~^2e6", "@integer 1c6~^1000001", "@integer 1~^1c6", "@integer 1~^2c0", "@integer 1c0~^2", "@integer 1c0~^1c0", "@integer 0~^1c1", "@decimal 1.5c1~^1.6c1", "@decimal 1.5~^1.6c0", "@decimal 1.0c1~^15", "@integer 1c6~^2000000000",
		// other numbers of digits behind the point
		"@decimal 1.0~^2.00", "@decimal 1.00~^2.0", "@decimal 1~^2.0", "@decimal 1.0~^2", "@decimal 1.0~^1.00", "@decimal 1~^1.0", "@decimal 0~^5000.0", "@decimal 1.0~^5000",
		// numbers that fall
		"@integer 2~^1", "@integer 1~^0", "@integer 10~^9", "@integer 10~^0009", "@integer 100~^99", "@integer 5000~^1", "@decimal 1.1~^1.0", "@decimal 1.00~^0.99", "@decimal 10.0~^9.9", "@integer " + nines(1000) + "~^" + nines(999), "@integer 0, 2~^1, x", "@integer 2~^1~0",
	},
	api.ErrMany: {
		"@integer 0~^1000", "@integer 0~^1001", "@integer 1~^1001", "@integer 007~^1007", "@integer 0~^0001000", "@integer 9~^1010", "@integer 0~^1" + noughts(18), "@integer 0~^1" + noughts(17), "@integer 0~^18446744073709551616", "@integer 0~^" + nines(1000), "@integer 99" + noughts(500) + "~^99" + noughts(497) + "1000",
		"@decimal 0.0~^100.0", "@decimal 0.0~^100.1", "@decimal 0.9~^100.9", "@decimal 1.00~^11.00", "@decimal 1.00~^11.01", "@decimal 0.0000~^0.1000", "@decimal 0~^1000", "@decimal 0." + noughts(999) + "~^0." + noughts(995) + "1000", "@integer 0~^1000 x", "@integer 1, 0~^1000, 2",
	},
}

func TestErrorsAndTheirPlaces(t *testing.T) {
	for e, list := range faults {
		for _, s := range list {
			ahead, behind, _ := strings.Cut(s, "^")
			wantError(t, ahead+behind, e, len(ahead))
			wantError(t, "   "+ahead+"  "+behind, e, len(ahead)+5)
			wantError(t, "@decimal 1.5, … "+ahead+behind, e, len(ahead)+len("@decimal 1.5, … "))
			if behind != "" {
				wantError(t, ahead+behind+" ", e, len(ahead))
				wantError(t, ahead+behind+" @integer 2~1", e, len(ahead))
			}
		}
	}
}

func TestNumbersApart(t *testing.T) {
	for _, s := range []string{
		"@integer 0~^999", "@integer 1~^1000", "@integer 007~^1006", "@integer 9~^0001008", "@integer 99" + noughts(500) + "~^99" + noughts(497) + "999", "@integer 1" + noughts(999) + "~^1" + noughts(996) + "999",
		"@decimal 0.0~^99.9", "@decimal 1.00~^10.99", "@decimal 0.0001~^0.1000", "@decimal 0~^999", "@decimal 0." + noughts(999) + "~^0." + noughts(996) + "999",
	} {
		ahead, behind, _ := strings.Cut(s, "^")
		got, e, at := Parse(ahead + behind)
		if e != api.OK || at != 0 || len(got) != 1 || len(got[0].Items) != 1 {
			t.Errorf("%q, whose numbers lie 999 apart: %d at %d", ahead+behind, e, at)
			continue
		}
		if n := len(slices.Collect(got[0].Items[0].All())); n != Most {
			t.Errorf("%q has %d numbers", ahead+behind, n)
		}
		// The same first number with the second one 1000 and 1001 above it.
		for _, far := range []int{1, 2} {
			wantError(t, ahead+plus(behind, far), api.ErrMany, len(ahead))
		}
	}
	if Most != 1000 {
		t.Error("Most is", Most)
	}
}

// plus is a number that is some more in its last place, found by other means.
func plus(s string, n int) string {
	whole, frac, point := strings.Cut(s, ".")
	value, _ := new(big.Int).SetString(whole+frac, 10)
	sum := value.Add(value, big.NewInt(int64(n))).String()
	for len(sum) < len(whole+frac) {
		sum = "0" + sum
	}
	if !point {
		return sum
	}
	return sum[:len(sum)-len(frac)] + "." + sum[len(sum)-len(frac):]
}

// tokens is what the machine below is handed: some that go on at some place, and some that never do.
var tokens = []string{"@integer", "@decimal", "@", ",", "~", "…", "...", "0", "2", "0.0", "1.5", "1c6", "1c10001", "1.", "5000", "x"}

func TestEachTokenBehindEachBeginning(t *testing.T) {
	holdAgainstMachine(t, nil, 8)
}

// holdAgainstMachine holds Parse against the grammar as a machine of states, at some tokens and, as long as these go on, at all those with one more.
func holdAgainstMachine(t *testing.T, list []string, depth int) {
	text := strings.Join(list, " ")
	at, e, ends := run(list)
	switch {
	case e != api.OK:
		wantError(t, text, e, place(list, at))
		return
	case !ends:
		wantError(t, text, api.ErrForm, len(text))
	default:
		if _, e, at := Parse(text); e != api.OK || at != 0 {
			t.Errorf("%q: %d at %d", text, e, at)
		}
	}
	if depth == 0 {
		return
	}
	for _, token := range tokens {
		holdAgainstMachine(t, append(slices.Clip(list), token), depth-1)
	}
}

// place is where a token begins.
func place(list []string, at int) int {
	if at == 0 {
		return 0
	}
	return len(strings.Join(list[:at], " ")) + 1
}

// run is the machine: the token at which it stops, and why; or whether the samples may end behind the last one.
func run(list []string) (int, api.Errno, bool) {
	state, kind, lo := "kind", "", ""
	for i, token := range list {
		next, e := "", api.ErrForm
		switch {
		case strings.HasPrefix(token, "@") && len(token) > 1:
			if strings.Contains(" kind lone both more ", " "+state+" ") {
				next, kind = "number", token
			}
		case token == ",":
			if state == "lone" || state == "both" {
				next = "comma"
			}
		case token == "~":
			if state == "lone" {
				next = "second"
			}
		case token == "…", token == "...":
			if state == "comma" {
				next = "more"
			}
		case strings.ContainsAny(token, "0123456789"):
			if state == "number" || state == "comma" {
				next, lo = "lone", token
				e = numberError(kind, token)
			} else if state == "second" {
				next = "both"
				e = numberError(kind, token)
				if e == api.OK {
					e = pairErrors[lo+" "+token]
				}
			}
			if e != api.OK {
				next = ""
			}
		}
		if next == "" {
			return i, e, false
		}
		state = next
	}
	return 0, api.OK, state != "number" && state != "comma" && state != "second"
}

// numberError is the error at one of the tokens that are numbers.
func numberError(kind, token string) api.Errno {
	switch {
	case token == "1.":
		return api.ErrForm
	case token == "1c10001":
		return api.ErrLong
	case kind == "@integer" && strings.Contains(token, "."):
		return api.ErrForm
	}
	return api.OK
}

// pairErrors is the errors of two of the tokens that are numbers.
var pairErrors = map[string]api.Errno{
	"2 0": api.ErrArg, "0 0.0": api.ErrArg, "0 1.5": api.ErrArg, "2 0.0": api.ErrArg, "2 1.5": api.ErrArg, "0.0 0": api.ErrArg, "0.0 2": api.ErrArg, "1.5 0": api.ErrArg, "1.5 2": api.ErrArg, "1.5 0.0": api.ErrArg,
	"0 1c6": api.ErrArg, "2 1c6": api.ErrArg, "0.0 1c6": api.ErrArg, "1.5 1c6": api.ErrArg, "1c6 0": api.ErrArg, "1c6 2": api.ErrArg, "1c6 0.0": api.ErrArg, "1c6 1.5": api.ErrArg, "1c6 1c6": api.ErrArg, "1c6 5000": api.ErrArg, "5000 1c6": api.ErrArg,
	"5000 0": api.ErrArg, "5000 2": api.ErrArg, "5000 0.0": api.ErrArg, "5000 1.5": api.ErrArg, "0.0 5000": api.ErrArg, "1.5 5000": api.ErrArg,
	"0 5000": api.ErrMany, "2 5000": api.ErrMany,
}

func TestAnyBytesEnd(t *testing.T) {
	source := rand.New(rand.NewSource(8))
	pieces := append([]string{" ", "  ", ".", "c", "e", "1", "9", "10", "é", "\xe2", "\x80\xa6", "@integer 1", ", ", "~", "@integer 0, 2~4, …", "@decimal 0.5~1.5"}, tokens...)
	for range 200000 {
		var text strings.Builder
		for range source.Intn(10) {
			text.WriteString(pieces[source.Intn(len(pieces))])
		}
		list, e, at := Parse(text.String())
		switch {
		case e == api.OK && at == 0:
			wantSets(t, written(list), list...)
		case len(list) != 0 || at < 0 || at > text.Len() || e == api.OK:
			t.Fatalf("%q is %v, %d at %d", text.String(), list, e, at)
		}
	}
}

// written is samples as the grammar has them, without blanks.
func written(list []Set) string {
	var text strings.Builder
	for _, set := range list {
		text.WriteString(map[bool]string{false: "@integer", true: "@decimal"}[set.Decimal])
		for i, x := range set.Items {
			if i > 0 {
				text.WriteString(",")
			}
			text.WriteString(x.Lo)
			if x.Hi != "" {
				text.WriteString("~" + x.Hi)
			}
		}
		if set.More {
			text.WriteString(",...")
		}
	}
	return text.String()
}

func TestAnswersAreNew(t *testing.T) {
	const text = "@integer1,2@decimal3,4@integer5,6"
	first, _, _ := Parse(text)
	for i := range first {
		first[i].Items = append(first[i].Items[:1], Item{Lo: "9"})
		first[i].Items = append(first[i].Items, Item{Lo: "8"})
	}
	if got := written(first); got != "@integer1,9,8@decimal3,9,8@integer5,9,8" {
		t.Errorf("two lists of one answer share memory: %s", got)
	}
	if again, _, _ := Parse(text); written(again) != text {
		t.Errorf("an answer hangs on an earlier one: %s", written(again))
	}
}

// P8.3

func TestAll(t *testing.T) {
	for s, want := range map[string]string{
		// one number alone is told as it stands
		"0": "0", "007": "007", "1.50": "1.50", "1c6": "1c6", "1.50e3": "1.50e3", "00.0": "00.0",
		// whole numbers
		"2~4": "2 3 4", "0~1": "0 1", "5~5": "5", "98~102": "98 99 100 101 102", "9~11": "9 10 11", "999~1000": "999 1000", "99999999999999999999~100000000000000000001": "99999999999999999999 100000000000000000000 100000000000000000001",
		// noughts ahead
		"08~11": "08 09 10 11", "008~11": "008 009 010 011", "0~003": "0 1 2 3", "98~0101": "98 99 100 101", "000~2": "000 001 002", "099~101": "099 100 101", "009~009": "009", "09~9": "09", "9~09": "9", "00~00": "00",
		// digits behind the point
		"0.8~1.1": "0.8 0.9 1.0 1.1", "0.0~0.2": "0.0 0.1 0.2", "1.98~2.01": "1.98 1.99 2.00 2.01", "9.9~10.1": "9.9 10.0 10.1", "99.99~100.00": "99.99 100.00", "0.008~0.011": "0.008 0.009 0.010 0.011", "00.9~1.1": "00.9 01.0 01.1", "09.9~10.0": "09.9 10.0", "0.9~01.1": "0.9 1.0 1.1", "1.0~1.0": "1.0", "0.00~0.00": "0.00", "01.0~1.0": "01.0",
	} {
		wantAll(t, s, strings.Fields(want))
	}
}

// wantAll fails unless an item, as Parse tells it, has just these numbers.
func wantAll(t *testing.T, s string, want []string) {
	t.Helper()
	list, e, _ := Parse("@decimal " + s)
	if e != api.OK || len(list) != 1 || len(list[0].Items) != 1 {
		t.Fatalf("%q is no item: %d", s, e)
	}
	all := list[0].Items[0].All()
	for range 2 { // it may be gone through again
		if got := slices.Collect(all); !slices.Equal(got, want) {
			t.Errorf("%q is %q, not %q", s, got, want)
		}
	}
}

func TestAllAgainstBig(t *testing.T) {
	source := rand.New(rand.NewSource(83))
	for range 3000 {
		lo := someNumber(source)
		steps := source.Intn(30)
		if source.Intn(20) == 0 {
			steps = 900 + source.Intn(100)
		}
		want := []string{lo}
		for i := range steps {
			want = append(want, plus(lo, i+1))
		}
		wantAll(t, lo+"~"+noughts(source.Intn(3))+want[steps], want)
	}
}

// someNumber is a number without a power, by a source, often just below a greater place.
func someNumber(source *rand.Rand) string {
	text := noughts(source.Intn(3))
	for range 1 + source.Intn(4) {
		text += string("0123456789999"[source.Intn(13)])
	}
	text += nines(source.Intn(25))
	if frac := source.Intn(len(text)); source.Intn(2) == 0 && frac > 0 {
		text = text[:len(text)-frac] + "." + text[len(text)-frac:]
	}
	return text
}

func TestAllOfManyDigits(t *testing.T) {
	wantAll(t, noughts(999)+"9~10", []string{noughts(999) + "9", noughts(998) + "10"})
	wantAll(t, nines(999)+"~1"+noughts(999), []string{nines(999), "1" + noughts(999)})
	wantAll(t, "0."+nines(999)+"~1."+noughts(999), []string{"0." + nines(999), "1." + noughts(999)})
	wantAll(t, "0."+noughts(998)+"9~0."+noughts(997)+"10", []string{"0." + noughts(998) + "9", "0." + noughts(997) + "10"})
}

func TestAllEndedEarly(t *testing.T) {
	for _, x := range []Item{{Lo: "7"}, {Lo: "0", Hi: "999"}, {Lo: "0.5", Hi: "1.4"}} {
		whole := slices.Collect(x.All())
		for most := 1; most <= len(whole); most++ {
			var got []string
			for s := range x.All() {
				got = append(got, s)
				if len(got) == most {
					break
				}
			}
			if !slices.Equal(got, whole[:most]) {
				t.Fatalf("%v, ended behind %d: %q", x, most, got)
			}
		}
	}
}

func TestAllOfAnyItemEnds(t *testing.T) {
	texts := []string{"", "0", "5", "3", "-1", "x", ".", ".5", "5.", "1.5", "1.5.5", "1c6", "2c6", "1.5e2", "\xff", " 1", "…", "1000000", nines(2000), "1" + noughts(100000), noughts(100000) + "1", "0." + noughts(70000), "0." + noughts(69999) + "1", "." + noughts(70000), noughts(70000) + "." + noughts(70000)}
	for _, lo := range texts {
		for _, hi := range texts {
			n := 0
			for range (Item{Lo: lo, Hi: hi}).All() {
				n++
			}
			if n > Most {
				t.Errorf("from %.20q to %.20q there are %d", lo, hi, n)
			}
		}
	}
}

// P8.4

// wantCheck fails unless rules have just these samples of other categories.
func wantCheck(t *testing.T, list rule.Rules, want ...Bad) {
	t.Helper()
	got, e, c := Check(list)
	if e != api.OK || c != 0 || !slices.Equal(got, want) {
		t.Errorf("%s: %v, %d at %s, not %v", list, got, e, c, want)
	}
}

// rules is the rules that a text is.
func rules(t *testing.T, s string) rule.Rules {
	t.Helper()
	list, e, at := rule.Parse(s)
	if e != api.OK {
		t.Fatalf("%q: %d at %d", s, e, at)
	}
	return list
}

func TestCheckOfNoSamples(t *testing.T) {
	wantCheck(t, nil)
	wantCheck(t, rule.Rules{})
	for _, s := range []string{"other:", "one: n = 1", "one: n = 1; two: n = 2; other:"} {
		wantCheck(t, rules(t, s))
	}
	wantCheck(t, rule.Rules{{Cat: rule.One, Sample: "    "}})
}

func TestCheckOfRulesAndTheirSamples(t *testing.T) {
	for _, s := range []string{
		"one: i = 1 and v = 0 @integer 1; other: @integer 0, 2~16, 100, 1000, 1c3, … @decimal 0.0~1.5, 10.0, 1.0000001c3, …",
		"one: i = 0,1 @integer 0, 1 @decimal 0.0~1.5; many: e = 0 and i != 0 and i % 1000000 = 0 and v = 0 or e != 0..5 @integer 1000000, 1c6, 2c6, … @decimal 1.0000001c6, 1.1c6, …; other: @integer 2~17, 100, 1c3, … @decimal 2.0~3.5, 1.0001c3, ...",
		"one: v = 0 and i % 10 = 1 and i % 100 != 11 @integer 1, 21, 31, 1001; few: v = 0 and i % 10 = 2..4 and i % 100 != 12..14 @integer 2~4, 22~24, 102; many: v = 0 and i % 10 = 0 or v = 0 and i % 10 = 5..9 or v = 0 and i % 100 = 11..14 @integer 0, 5~19, 100; other: @decimal 0.0~1.5, 10.0, …",
		"zero: n = 0 @integer 0 @decimal 0.0~0.0, 0.00; one: n = 1 @integer 1 @decimal 1.0, 1.00; two: n = 2 @integer 2; few: n % 100 = 3..10 @integer 3~10, 103~110; many: n % 100 = 11..99 @integer 11~26, 111; other: @integer 100~102 @decimal 0.1~0.9, 1.1~1.7",
	} {
		wantCheck(t, rules(t, s))
	}
}

func TestCheckOfOtherCategories(t *testing.T) {
	const one, few, other = rule.One, rule.Few, rule.Other
	wantCheck(t, rules(t, "one: i = 1 and v = 0 @integer 1~2; other: @integer 0, 1c6 @decimal 1.0"), Bad{one, "2", other})
	wantCheck(t, rules(t, "one: i = 1 and v = 0; other: @integer 0~2"), Bad{other, "1", one})
	wantCheck(t, rules(t, "one: n = 1 @integer 0"), Bad{one, "0", other})
	wantCheck(t, rules(t, "other: @integer 0~5, …"))

	// In the order of the rules, and of the samples of each, as often as they stand there.
	wantCheck(t, rules(t, "other: @integer 3, 0~2 @decimal 1.0, 1.00~1.01; few: n = 3..4 @decimal 2.9~3.1, 3.0, 3.00 @integer 1, 1; one: n = 1 @integer 1"),
		Bad{other, "3", few}, Bad{other, "1", one}, Bad{other, "1.0", one}, Bad{other, "1.00", one},
		Bad{few, "2.9", other}, Bad{few, "3.1", other}, Bad{few, "1", one}, Bad{few, "1", one})

	// All rules are asked, the ones behind too, and by their categories' order, not by their own.
	wantCheck(t, rules(t, "few: n = 1..3 @integer 1~3; one: n = 1,2 @integer 1~3"), Bad{few, "1", one}, Bad{few, "2", one}, Bad{one, "3", few})

	// Numbers are told as All has them.
	wantCheck(t, rules(t, "one: n = 9 @integer 08~010, 1.0c1, 9"), Bad{one, "08", other}, Bad{one, "10", other}, Bad{one, "1.0c1", other})
	wantCheck(t, rules(t, "one: c = 6 @integer 1c6, 1e6, 1000000 @decimal 1.5c6"), Bad{one, "1000000", other})
}

func TestCheckOfWrongSamples(t *testing.T) {
	for s, e := range map[string]api.Errno{
		"@":                    api.ErrForm,
		"@integer":             api.ErrForm,
		"@integer 1,":          api.ErrForm,
		"@integer 1.5":         api.ErrForm,
		"@decimal 1.0, … 2":    api.ErrForm,
		"@integer 1c10001":     api.ErrLong,
		"@integer 2~1":         api.ErrArg,
		"@decimal 1.0~2":       api.ErrArg,
		"@integer 0~1000":      api.ErrMany,
		"@integer 1 @integerx": api.ErrForm,
	} {
		for _, c := range []rule.Cat{rule.Zero, rule.One, rule.Two, rule.Few, rule.Many} {
			word := c.String()
			for _, text := range []string{
				word + ": n = 1 " + s,
				"other: @integer 1; " + word + ": n = 1 " + s,
				word + ": n = 1 " + s + "; other: @integer 1",
				word + ": n = 1 " + s + "; other: @x",
			} {
				wantCheckError(t, rules(t, text), e, c)
			}
		}
		wantCheckError(t, rules(t, "one: n = 1 @integer 1~5; other: "+s), e, rule.Other)
	}
	wantCheckError(t, rule.Rules{{Cat: rule.Two, Sample: "x"}}, api.ErrForm, rule.Two)
	wantCheckError(t, rule.Rules{{Cat: 17, Sample: "1"}}, api.ErrForm, 17)
}

// wantCheckError fails unless samples of rules have just this error at this category, and nothing is told beside it.
func wantCheckError(t *testing.T, list rule.Rules, e api.Errno, c rule.Cat) {
	t.Helper()
	got, gotE, gotC := Check(list)
	if len(got) != 0 || gotE != e || gotC != c {
		t.Errorf("%s: %v, %d at %s, not %d at %s", list, got, gotE, gotC, e, c)
	}
}

func TestCheckOfAnyCategory(t *testing.T) {
	wantCheck(t, rule.Rules{{Cat: -1, Sample: "@integer 1"}, {Cat: 6, Sample: "@decimal 1.5"}}, Bad{-1, "1", rule.Other}, Bad{6, "1.5", rule.Other})
}

func TestCheckLeavesRulesAsTheyAre(t *testing.T) {
	const text = "one: n = 1 @integer 1~2; other: @integer 0, 1"
	list := rules(t, text)
	first, _, _ := Check(list)
	first[0].Text = "x"
	second, _, _ := Check(list)
	if list.String() != text || second[0].Text != "2" {
		t.Errorf("%s, %v", list, second)
	}
}

func TestEachSampleIsReadAgain(t *testing.T) {
	// Check reads numbers that All tells, without asking for their error.
	for _, s := range []string{"@integer 0~999", "@decimal 0." + nines(999) + "~1." + noughts(999), "@integer " + nines(999) + "~1" + noughts(999), "@integer " + noughts(999) + "1~999"} {
		list, e, _ := Parse(s)
		if e != api.OK {
			t.Fatalf("%q: %d", s, e)
		}
		for text := range list[0].Items[0].All() {
			if _, e := operand.Read(text); e != api.OK {
				t.Errorf("%q of %q: %d", text, s, e)
			}
		}
	}
}
