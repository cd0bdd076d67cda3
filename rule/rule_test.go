package rule

import (
	"math"
	"math/rand"
	"reflect"
	"slices"
	"strconv"
	"strings"
	"testing"

	"florin/api"
)

// one is the rules of one: and a single relation.
func one(x Rel) Rules { return Rules{{Cat: One, Any: [][]Rel{{x}}}} }

// is is a relation n = and some numbers.
func is(numbers ...int) Rel {
	x := Rel{Op: 'n'}
	for _, n := range numbers {
		x.Ranges = append(x.Ranges, Range{n, n})
	}
	return x
}

// wantRules fails unless a text is just these rules.
func wantRules(t *testing.T, s string, want Rules) {
	t.Helper()
	got, e, at := Parse(s)
	if e != api.OK || at != 0 || len(got)+len(want) > 0 && !reflect.DeepEqual(got, want) {
		t.Errorf("%q is %#v, %d at %d, not %#v", s, got, e, at, want)
	}
}

// wantError fails unless a text has just this error at this place.
func wantError(t *testing.T, s string, e api.Errno, at int) {
	t.Helper()
	got, gotE, gotAt := Parse(s)
	if len(got) != 0 || gotE != e || gotAt != at {
		t.Errorf("%q is %v, %d at %d, not %d at %d", s, got, gotE, gotAt, e, at)
	}
}

// P6.1

func TestWordsOfCategories(t *testing.T) {
	for i, word := range []string{"zero", "one", "two", "few", "many", "other"} {
		if got := Cat(i).String(); got != word {
			t.Errorf("the word of %d is %q, not %q", i, got, word)
		}
		if c, ok := CatOf(word); c != Cat(i) || !ok {
			t.Errorf("%q is %d, %v", word, c, ok)
		}
	}
	if Zero != 0 || One != 1 || Two != 2 || Few != 3 || Many != 4 || Other != 5 {
		t.Error("the categories aren't in order")
	}
}

func TestNumbersThatAreNoCategory(t *testing.T) {
	for _, c := range []Cat{-1, -2, 6, 7, 100, math.MinInt, math.MaxInt} {
		if got := c.String(); got != "" {
			t.Errorf("the word of %d is %q", int(c), got)
		}
	}
}

func TestWordsThatAreNone(t *testing.T) {
	for _, s := range []string{"", "Zero", "ZERO", "zer", "zeros", "on", "ones", "oneone", " one", "one ", "0", "1", "n", "and", "otherone", "öne", "one\x00", "\xff"} {
		if c, ok := CatOf(s); c != 0 || ok {
			t.Errorf("%q is %d, %v", s, c, ok)
		}
	}
}

// P6.2

func TestNoRulesAtAll(t *testing.T) {
	for _, s := range []string{"", " ", "      ", strings.Repeat(" ", 4000)} {
		wantRules(t, s, nil)
	}
}

func TestRulesAndTheirEnds(t *testing.T) {
	two := Rules{{Cat: One, Any: [][]Rel{{is(1)}}}, {Cat: Other}}
	for _, s := range []string{"one: n = 1; other:", "one: n = 1; other:;", "one:n=1;other:", "one:n=1;other:;", " one : n = 1 ; other : ; "} {
		wantRules(t, s, two)
	}
	wantRules(t, "one: n = 1;", one(is(1)))
	wantRules(t, "other:", Rules{{Cat: Other}})
	wantRules(t, "other:;", Rules{{Cat: Other}})
	wantRules(t, "other:;zero:n=0", Rules{{Cat: Other}, {Cat: Zero, Any: [][]Rel{{is(0)}}}})
}

func TestAllCategoriesInWhicheverOrder(t *testing.T) {
	wantRules(t, "other:; many: n = 4; few: n = 3; two: n = 2; one: n = 1; zero: n = 0", Rules{
		{Cat: Other}, {Cat: Many, Any: [][]Rel{{is(4)}}}, {Cat: Few, Any: [][]Rel{{is(3)}}}, {Cat: Two, Any: [][]Rel{{is(2)}}}, {Cat: One, Any: [][]Rel{{is(1)}}}, {Cat: Zero, Any: [][]Rel{{is(0)}}},
	})
}

func TestConditions(t *testing.T) {
	a, b, c, d := is(1), is(2), is(3), is(4)
	for s, any := range map[string][][]Rel{
		"n = 1":                                 {{a}},
		"n = 1 and n = 2":                       {{a, b}},
		"n = 1 or n = 2":                        {{a}, {b}},
		"n = 1 and n = 2 or n = 3":              {{a, b}, {c}},
		"n = 1 or n = 2 and n = 3":              {{a}, {b, c}},
		"n = 1 and n = 2 or n = 3 and n = 4":    {{a, b}, {c, d}},
		"n = 1 or n = 2 or n = 3 or n = 4":      {{a}, {b}, {c}, {d}},
		"n = 1 and n = 2 and n = 3 and n = 4":   {{a, b, c, d}},
		"n = 1 and n = 1 or n = 1":              {{a, a}, {a}},
		"n = 4 or n = 1 and n = 2 and n = 3":    {{d}, {a, b, c}},
		"n=1and n=2or n=3and n=4":               {{a, b}, {c, d}},
		"n=1   and   n=2   or   n=3 or    n= 4": {{a, b}, {c}, {d}},
	} {
		wantRules(t, "one: "+s, Rules{{Cat: One, Any: any}})
	}
}

func TestRelations(t *testing.T) {
	for _, op := range []byte("nivwftce") {
		name := string([]byte{op})
		wantRules(t, "one: "+name+" = 1", one(Rel{Op: op, Ranges: []Range{{1, 1}}}))
		wantRules(t, "one: "+name+" != 1", one(Rel{Op: op, Not: true, Ranges: []Range{{1, 1}}}))
		wantRules(t, "one: "+name+" % 10 = 1", one(Rel{Op: op, Mod: 10, Ranges: []Range{{1, 1}}}))
		wantRules(t, "one:"+name+"%100!=1..2,7", one(Rel{Op: op, Mod: 100, Not: true, Ranges: []Range{{1, 2}, {7, 7}}}))
	}
}

func TestRanges(t *testing.T) {
	for s, ranges := range map[string][]Range{
		"0":                      {{0, 0}},
		"7":                      {{7, 7}},
		"0..0":                   {{0, 0}},
		"5..5":                   {{5, 5}},
		"2..4":                   {{2, 4}},
		"0..999999999":           {{0, 999999999}},
		"999999999":              {{999999999, 999999999}},
		"100000000..999999999":   {{100000000, 999999999}},
		"1,3":                    {{1, 1}, {3, 3}},
		"3,1,3":                  {{3, 3}, {1, 1}, {3, 3}},
		"9..10,2,4..4,0":         {{9, 10}, {2, 2}, {4, 4}, {0, 0}},
		"1 .. 2 , 3 .. 4 ,5":     {{1, 2}, {3, 4}, {5, 5}},
		"10..20,10..20,15..16":   {{10, 20}, {10, 20}, {15, 16}},
		"123456789..  123456790": {{123456789, 123456790}},
	} {
		wantRules(t, "one: i % 999999999 = "+s, one(Rel{Op: 'i', Mod: 999999999, Ranges: ranges}))
	}
}

func TestSamples(t *testing.T) {
	for s, want := range map[string]string{
		"":                        "",
		"   ":                     "",
		"@":                       "@",
		"@   ":                    "@",
		"  @":                     "@",
		"  @x  y   ":              "@x  y",
		"@ x":                     "@ x",
		"@integer 1, 2~4, …":      "@integer 1, 2~4, …",
		"@integer 1 @decimal 1.0": "@integer 1 @decimal 1.0",
		"@one: n = 01 and":        "@one: n = 01 and",
		"@@":                      "@@",
		"@\xff\x00\t\n \t":        "@\xff\x00\t\n \t",
		"@x\t  ":                  "@x\t",
	} {
		wantRules(t, "other:"+s, Rules{{Cat: Other, Sample: want}})
		wantRules(t, "other:"+s+";", Rules{{Cat: Other, Sample: want}})
		wantRules(t, "one:n=1"+s, Rules{{Cat: One, Any: [][]Rel{{is(1)}}, Sample: want}})
		wantRules(t, "one:n=1"+s+"; two: n = 2 @b", Rules{{Cat: One, Any: [][]Rel{{is(1)}}, Sample: want}, {Cat: Two, Any: [][]Rel{{is(2)}}, Sample: "@b"}})
	}
}

func TestBlanksBetweenAllAndNone(t *testing.T) {
	tokens := []string{"few", ":", "n", "%", "10", "=", "2", "..", "4", ",", "7", "and", "i", "!=", "12", "..", "14", "or", "v", "=", "1", "@2~4", ";", "other", ":", "@", ";"}
	want := Rules{
		{Cat: Few, Any: [][]Rel{{{Op: 'n', Mod: 10, Ranges: []Range{{2, 4}, {7, 7}}}, {Op: 'i', Not: true, Ranges: []Range{{12, 14}}}}, {{Op: 'v', Ranges: []Range{{1, 1}}}}}, Sample: "@2~4"},
		{Cat: Other, Sample: "@"},
	}
	for _, gap := range []string{" ", "  ", "       "} {
		wantRules(t, gap+strings.Join(tokens, gap)+gap, want)
	}
	wantRules(t, "few:n%10=2..4,7and i!=12..14or v=1@2~4;other:@;", want)
	for i := range tokens {
		text := strings.Join(tokens[:i], " ") + "    " + strings.Join(tokens[i:], " ")
		wantRules(t, text, want)
	}
}

func TestBlanksWithinSignsWordsAndNumbers(t *testing.T) {
	wantError(t, "one: n ! = 1", api.ErrForm, 7)
	wantError(t, "one: n = 1. .2", api.ErrForm, 10)
	wantError(t, "one: n = 1 2", api.ErrForm, 11)
	wantError(t, "o ne: n = 1", api.ErrForm, 0)
	wantError(t, "one: n = 1 an d n = 2", api.ErrForm, 11)
	wantError(t, "one: n = 1 o r n = 2", api.ErrForm, 11)
}

func TestOtherBytesAreNoBlanks(t *testing.T) {
	for _, b := range []string{"\t", "\n", "\r", "\x00", "\u00a0", "\xff", "_", "#"} {
		wantError(t, b+"one: n = 1", api.ErrForm, 0)
		wantError(t, "one"+b+": n = 1", api.ErrForm, 3)
		wantError(t, "one:"+b+"n = 1", api.ErrForm, 4)
		wantError(t, "one: n"+b+"= 1", api.ErrForm, 6)
		wantError(t, "one: n ="+b+"1", api.ErrForm, 8)
		wantError(t, "one: n = 1"+b, api.ErrForm, 10)
		wantError(t, "one: n = 1;"+b, api.ErrForm, 11)
		wantError(t, "other:"+b, api.ErrForm, 6)
	}
}

// P6.3

// faults is texts that aren't rules, by their errors; the place of each error is that of the mark ^, which isn't part of the text.
var faults = map[api.Errno][]string{
	api.ErrForm: {
		// where a rule is to begin
		"^;", "^:", "^@x", "^1", "^One: n = 1", "^on: n = 1", "^ones: n = 1", "^onetwo: n = 1", "^n = 1", "^and", "other:;^;", "one: n = 1;^;", "one: n = 1; ^three: n = 1", "one: n = 1; ^onetwo: n = 2", "one: n = 1; ^, other:", "other: @x; ^@y", "^é: n = 1",
		// the colon
		"one^", "one ^n = 1", "one ^two", "one^1: n = 1", "one^; other:", "one ^= 1", "one^O: n = 1", "other^", "other ^@x", "one^é: n = 1",
		// conditions that lack, or that other has
		"one:^", "one:^;", "one: ^@integer 1", "one:^:", "other: ^n = 1", "other: ^x", "other:^:", "other: ^other:", "other: ^1",
		// operands
		"one: ^x = 1", "one: ^a = 1", "one: ^nn = 1", "one: ^ni = 1", "one: ^N = 1", "one: ^1 = 1", "one: ^1234567890 = 1", "one: ^= 1", "one: ^and n = 1", "one: ^or n = 1", "one: ^one: n = 1", "one: n = 1 and ^x = 1", "one: n = 1 or ^nivwftce = 1", "one: n = 1 and ^and n = 1", "one: n = 1 or ^and n = 1", "one: n = 1 and ^", "one: n = 1 or^", "one: n = 1 and^;", "one: n = 1 and ^@x",
		// the number behind %
		"one: n % ^", "one: n % ^= 1", "one: n %^% 10 = 1", "one: n % ^x = 1", "one: n % ^-1 = 1", "one: n % ^00 = 1", "one: n % ^010 = 1", "one: n % ^0123456789 = 1", "one: n % 10 ^% 10 = 1", "one: n % 10 ^10 = 1", "one: n % 10^", "one: n % 10 ^,",
		// = and !=
		"one: n^", "one: n ^1", "one: n^10 = 1", "one: n ^! 1", "one: n ^!", "one: n ^<= 1", "one: n ^is 1", "one: n ^in 1", "one: n ^: 1", "one: n ^not = 1", "one: n ^.. 1",
		// the first numbers of ranges
		"one: n = ^", "one: n != ^", "one: n =^= 1", "one: n !=^= 1", "one: n =^!= 1", "one: n = ^x", "one: n = ^-1", "one: n = ^+1", "one: n = ^,1", "one: n = ^..1", "one: n = ^;", "one: n = ^@x", "one: n = ^01", "one: n = ^00", "one: n = ^0000000000", "one: n = ^0123456789", "one: n = 1,^", "one: n = 1,^,2", "one: n = 1,^02", "one: n = 1, ^and n = 2", "one: n = ^and n = 2", "one: n = ^٣", "one: n = ^01; one: n = 1",
		// their second ones
		"one: n = 1..^", "one: n = 1..^.2", "one: n = 1..^..2", "one: n = 1..^,2", "one: n = 1..^x", "one: n = 5..^04", "one: n = 5..^00", "one: n = 1..2^..3", "one: n = 1^.2", "one: n = 1^.", "one: n = 1^…2", "one: n = 1^~2", "one: n = 1^-2",
		// behind a relation
		"one: n = 1 ^x", "one: n = 1^x", "one: n = 1 ^n = 2", "one: n = 1 ^2", "one: n = 1 ^andn = 2", "one: n = 1 ^orn = 2", "one: n = 1^andn = 2", "one: n = 1 ^an", "one: n = 1 ^o", "one: n = 1 ^And n = 2", "one: n = 1 ^= 2", "one: n = 1 ^% 2", "one: n = 1 ^: 2", "one: n = 1 ^two: n = 2", "one: n = 1 ^andor n = 2", "one: n = 1^A",
	},
	api.ErrLong: {
		"one: n % ^1234567890 = 1", "one: n % ^1000000000 = 1", "one: n%^12345678901234567890123", "one: n = ^1234567890", "one: n = ^1000000000", "one: n = 1, ^1000000000", "one: n = ^9999999999999999999999", "one: n = 5..^1234567890", "one: n = ^1234567890..1",
	},
	api.ErrArg: {
		"one: n % ^0 = 1", "one: n%^0", "one: n % ^0 x", "one: n = 3..^2", "one: n = 1..^0", "one: n = 10 .. ^9", "one: n = 999999999..^999999998", "one: n = 1..2, 4..^3", "one: n = 1 and n = 4..^3 x", "one: n = 3..^2; one: n = 1",
	},
	api.ErrCat: {
		"one: n = 1; ^one: n = 2", "one: n = 1; two: n = 2; ^one: n = 2", "other:; ^other:", "other:;^other", "zero: n = 0; ^zero", "many: n = 1;^many x", "few: n = 1 @x; ^few: n % 0", "two: n = 1; ^two;",
	},
}

func TestErrorsAndTheirPlaces(t *testing.T) {
	for e, list := range faults {
		for _, s := range list {
			ahead, behind, _ := strings.Cut(s, "^")
			wantError(t, ahead+behind, e, len(ahead))
			wantError(t, "   "+ahead+"  "+behind, e, len(ahead)+5)
			if behind != "" {
				wantError(t, ahead+behind+" ", e, len(ahead))
			}
		}
	}
}

func TestBytesAreBounded(t *testing.T) {
	for _, s := range []string{"other:@", "one: n = 1 @", "other: @x;", ""} {
		fill := strings.Repeat(" ", 4000-len(s))
		if _, e, at := Parse(s + fill); e != api.OK || at != 0 {
			t.Errorf("%q with blanks up to 4,000 bytes: %d at %d", s, e, at)
		}
		wantError(t, s+fill+" ", api.ErrMany, 0)
		wantError(t, s+fill+strings.Repeat(" ", 100000), api.ErrMany, 0)
	}
	// More bytes come ahead of whatever else is wrong, and as many as may be don't.
	wantError(t, "x"+strings.Repeat(" ", 4000), api.ErrMany, 0)
	wantError(t, strings.Repeat(" ", 3999)+"x", api.ErrForm, 3999)
	wantRules(t, "other:"+"@"+strings.Repeat("x", 3993), Rules{{Cat: Other, Sample: "@" + strings.Repeat("x", 3993)}})
}

// many is so many relations with and between them.
func many(n int) string { return strings.Join(slices.Repeat([]string{"n=1"}, n), " and ") }

func TestRelationsAreBounded(t *testing.T) {
	list, e, at := Parse("one:" + many(200))
	if e != api.OK || at != 0 || len(list) != 1 || len(list[0].Any[0]) != 200 {
		t.Errorf("200 relations: %d at %d", e, at)
	}
	wantError(t, "one:"+many(201), api.ErrMany, len("one:"+many(200)+" and "))
	wantError(t, "one:"+many(250)+" x", api.ErrMany, len("one:"+many(200)+" and "))

	// They count through all rules and alls.
	parted := "one:" + many(50) + " or " + many(50) + " @x; two: " + many(99) + " or n = 1; "
	list, e, _ = Parse(parted + "other:")
	if e != api.OK || len(list) != 3 {
		t.Errorf("200 relations of two rules: %d", e)
	}
	wantError(t, parted+"few:   n = 1", api.ErrMany, len(parted+"few:   "))
	wantError(t, parted+"few: e", api.ErrMany, len(parted+"few: "))

	// What is no operand is that, however many are ahead.
	wantError(t, parted+"few: x", api.ErrForm, len(parted+"few: "))
	wantError(t, parted+"few: ", api.ErrForm, len(parted+"few: "))
	wantError(t, "one:"+many(200)+" and", api.ErrForm, len("one:"+many(200)+" and"))
	wantError(t, parted+"one: n = 1", api.ErrCat, len(parted))
}

// tokens is what the machine below is handed: some that go on at some place, and some that never do.
var tokens = []string{"one", "two", "other", "onex", "n", "e", "x", "and", "or", ":", ";", "%", "=", "!=", "..", ",", "@", "0", "1", "01", "1234567890", "!", "."}

func TestEachTokenBehindEachBeginning(t *testing.T) {
	holdAgainstMachine(t, nil, 12)
}

// holdAgainstMachine holds Parse against the grammar as a machine of states, at some tokens and, as long as these go on, at all those with one more.
func holdAgainstMachine(t *testing.T, list []string, depth int) {
	text := strings.Join(list, " ")
	at, e, state := run(list)
	if e != api.OK {
		wantError(t, text, e, place(list, at))
		return
	}
	if !strings.Contains(" rule behind lone samples bare ", " "+state+" ") {
		wantError(t, text, api.ErrForm, len(text))
	} else if _, e, at := Parse(text); e != api.OK || at != 0 {
		t.Errorf("%q: %d at %d", text, e, at)
	}
	// Of samples every token is more of them: one is enough.
	inSamples := state == "samples" && list[len(list)-1] != "@"
	if depth == 0 || inSamples {
		return
	}
	for _, token := range tokens {
		holdAgainstMachine(t, append(slices.Clip(list), token), depth-1)
	}
}

// place is where a token begins.
func place(list []string, at int) int {
	if at == 0 {
		return 0
	}
	return len(strings.Join(list[:at], " ")) + 1
}

// run is the machine: the token at which it stops, and why; or its state behind the last one.
func run(list []string) (int, api.Errno, string) {
	state, cat, lo := "rule", "", 0
	seen := map[string]int{}
	for i, token := range list {
		kind := token
		switch token {
		case "n", "e":
			kind = "operand"
		case "0", "1":
			kind = "number"
		case "one", "two", "other":
			kind = "category"
		case "=", "!=":
			kind = "sign"
		case "and", "or":
			kind = "join"
		}
		if token == "1234567890" && strings.Contains(" mod lo hi ", " "+state+" ") {
			return i, api.ErrLong, ""
		}
		next := machine[state+" "+kind]
		if state == "samples" && token != ";" {
			next = "samples"
		}
		value, _ := strconv.Atoi(token)
		switch {
		case next == "":
			return i, api.ErrForm, ""
		case state == "rule" && seen[token] > 0:
			return i, api.ErrCat, ""
		case state == "mod" && value == 0, state == "hi" && value < lo:
			return i, api.ErrArg, ""
		}
		switch state {
		case "rule":
			cat = token
			seen[cat]++
		case "lo":
			lo = value
		case "colon":
			if cat == "other" {
				next = "bare"
			}
		}
		state = next
	}
	return 0, api.OK, state
}

// machine is which state and kind of token lead to which state.
var machine = map[string]string{
	"rule category": "colon", "colon :": "operand", "operand operand": "sign", "sign %": "mod", "sign sign": "lo", "mod number": "only", "only sign": "lo",
	"lo number": "lone", "lone ..": "hi", "lone ,": "lo", "lone join": "operand", "lone @": "samples", "lone ;": "rule",
	"hi number": "behind", "behind ,": "lo", "behind join": "operand", "behind @": "samples", "behind ;": "rule",
	"bare @": "samples", "bare ;": "rule", "samples ;": "rule",
}

func TestAnyBytesEnd(t *testing.T) {
	source := rand.New(rand.NewSource(6))
	pieces := append([]string{" ", "  ", "zero", "few", "many", "i", "v", "10", "ÿ", "é", "999999999", "@integer 1", "one: n = 1", "other:;"}, tokens...)
	for range 200000 {
		var text strings.Builder
		for range source.Intn(12) {
			text.WriteString(pieces[source.Intn(len(pieces))])
		}
		list, e, at := Parse(text.String())
		switch {
		case e == api.OK && at == 0:
			wantRules(t, list.String(), list)
		case len(list) != 0 || at < 0 || at > text.Len() || e == api.OK:
			t.Fatalf("%q is %v, %d at %d", text.String(), list, e, at)
		}
	}
}

func TestAnswersAreNew(t *testing.T) {
	const text = "one: n = 1,2 and i = 3 or v = 4; two: n = 1,2"
	first, _, _ := Parse(text)
	first[0].Any[0][0].Ranges = append(first[0].Any[0][0].Ranges[:1], Range{9, 9})
	first[0].Any[0] = append(first[0].Any[0], is(9))
	first[0].Any = append(first[0].Any, []Rel{is(9)})
	if got := first.String(); got != "one: n = 1,9 and i = 3 and n = 9 or v = 4 or n = 9; two: n = 1,2" {
		t.Errorf("two lists of one answer share memory: %s", got)
	}
	if again, _, _ := Parse(text); again.String() != text {
		t.Errorf("an answer hangs on an earlier one: %s", again)
	}
}

// P6.4

func TestStringOfRanges(t *testing.T) {
	for x, want := range map[Range]string{
		{}: "0", {0, 1}: "0..1", {5, 5}: "5", {2, 4}: "2..4", {999999999, 999999999}: "999999999", {0, 999999999}: "0..999999999", {4, 2}: "4..2",
	} {
		if got := x.String(); got != want {
			t.Errorf("%d to %d is %q, not %q", x.Lo, x.Hi, got, want)
		}
	}
}

func TestStringOfRelations(t *testing.T) {
	ranges := []Range{{2, 4}, {7, 7}, {0, 1}}
	for _, op := range []byte("nivwftce") {
		name := string([]byte{op})
		for got, want := range map[string]string{
			Rel{Op: op, Ranges: ranges[:1]}.String():                      name + " = 2..4",
			Rel{Op: op, Ranges: ranges[1:2]}.String():                     name + " = 7",
			Rel{Op: op, Not: true, Ranges: ranges}.String():               name + " != 2..4,7,0..1",
			Rel{Op: op, Mod: 1, Ranges: ranges[1:]}.String():              name + " % 1 = 7,0..1",
			Rel{Op: op, Mod: 100, Not: true, Ranges: ranges[:2]}.String(): name + " % 100 != 2..4,7",
			Rel{Op: op, Mod: 999999999, Ranges: []Range{{0, 0}}}.String(): name + " % 999999999 = 0",
		} {
			if got != want {
				t.Errorf("%q isn't %q", got, want)
			}
		}
	}
}

func TestStringOfRules(t *testing.T) {
	a, b, c := is(1), Rel{Op: 'i', Mod: 10, Ranges: []Range{{2, 4}}}, Rel{Op: 'v', Not: true, Ranges: []Range{{0, 0}}}
	list := Rules{
		{Cat: Zero, Any: [][]Rel{{a}}},
		{Cat: One, Any: [][]Rel{{a, b, c}}},
		{Cat: Two, Any: [][]Rel{{a}, {b}, {c}}, Sample: "@"},
		{Cat: Few, Any: [][]Rel{{a, b}, {c}, {b, a}}, Sample: "@integer 1,  2"},
		{Cat: Many, Sample: "@x"},
		{Cat: Other},
	}
	want := []string{
		"zero: n = 1",
		"one: n = 1 and i % 10 = 2..4 and v != 0",
		"two: n = 1 or i % 10 = 2..4 or v != 0 @",
		"few: n = 1 and i % 10 = 2..4 or v != 0 or i % 10 = 2..4 and n = 1 @integer 1,  2",
		"many: @x",
		"other:",
	}
	for i, x := range list {
		if got := x.String(); got != want[i] {
			t.Errorf("%q isn't %q", got, want[i])
		}
		if got := list[:i].String(); got != strings.Join(want[:i], "; ") {
			t.Errorf("%d rules are %q", i, got)
		}
	}
}

func TestStringOfAnything(t *testing.T) {
	for _, x := range []Rule{
		{}, {Cat: -1}, {Cat: 6, Sample: "x;"}, {Any: [][]Rel{}}, {Any: [][]Rel{nil}}, {Any: [][]Rel{nil, {{}}}},
		{Any: [][]Rel{{{Op: 200, Mod: -5, Ranges: []Range{{math.MinInt, math.MaxInt}}}}}, Sample: "\xff"},
	} {
		if got, word := x.String(), x.Cat.String()+":"; !strings.HasPrefix(got, word) || !strings.HasSuffix(got, x.Sample) {
			t.Errorf("%#v is %q", x, got)
		}
	}
	if got := (Rel{Op: 200, Mod: -5, Ranges: []Range{{-1, 1}}}).String(); got != "\xc8 % -5 = -1..1" {
		t.Errorf("a relation that isn't told is %q", got)
	}
}

func TestWhatIsWrittenIsToldAgain(t *testing.T) {
	for s, want := range map[string]string{
		"":                                  "",
		"  ":                                "",
		"other:;":                           "other:",
		"one: i = 1 and v = 0; other:":      "one: i = 1 and v = 0; other:",
		"one:i=1and v=0;other:@ ;":          "one: i = 1 and v = 0; other: @",
		"one:n=5..5,5..6@a  ;zero:n%1!=0or": "",
		"one:n=5..5,5..6@a  ;zero:n%1!=0":   "one: n = 5,5..6 @a; zero: n % 1 != 0",
	} {
		list, _, _ := Parse(s)
		if got := list.String(); got != want {
			t.Errorf("%q is written %q, not %q", s, got, want)
		}
		wantRules(t, want, list)
	}
}

func TestWhatIsWrittenMayBeTooLong(t *testing.T) {
	text := "one:" + strings.Repeat("n=1or ", 199) + "n=1@"
	text += strings.Repeat("x", 4000-len(text))
	list, e, _ := Parse(text)
	if e != api.OK || len(list.String()) <= 4000 {
		t.Fatalf("%d, and %d bytes", e, len(list.String()))
	}
	// The bound is of bytes, blanks among them, and what is written has more blanks.
	wantError(t, list.String(), api.ErrMany, 0)
}

func TestRulesOfAllSortsAreToldAgain(t *testing.T) {
	source := rand.New(rand.NewSource(64))
	for range 5000 {
		want := someRules(source)
		text := want.String()
		if len(text) > api.MaxRules {
			continue
		}
		wantRules(t, text, want)
		wantRules(t, spread(source, text), want)
	}
}

// someRules is rules as Parse tells them, by a source.
func someRules(source *rand.Rand) Rules {
	samples := []string{"", "@", "@integer 1~4, …", "@decimal 1.0   0"}
	var list Rules
	for _, c := range source.Perm(6)[:source.Intn(7)] {
		x := Rule{Cat: Cat(c), Sample: samples[source.Intn(len(samples))]}
		for range 1 + source.Intn(3) {
			var all []Rel
			for range 1 + source.Intn(3) {
				all = append(all, someRelation(source))
			}
			x.Any = append(x.Any, all)
		}
		if x.Cat == Other {
			x.Any = nil
		}
		list = append(list, x)
	}
	return list
}

// someRelation is a relation as Parse tells it, by a source.
func someRelation(source *rand.Rand) Rel {
	numbers := []int{0, 1, 2, 9, 10, 11, 100, 123456789, 999999999}
	x := Rel{Op: "nivwftce"[source.Intn(8)], Not: source.Intn(2) == 0, Mod: numbers[source.Intn(len(numbers))]}
	for range 1 + source.Intn(4) {
		lo := source.Intn(len(numbers))
		hi := lo + source.Intn(len(numbers)-lo)
		x.Ranges = append(x.Ranges, Range{numbers[lo], numbers[hi]})
	}
	return x
}

// spread is a text of rules with other blanks: fewer where words and numbers don't meet, or more; samples are left as they are.
func spread(source *rand.Rand, text string) string {
	var out strings.Builder
	inSample := false
	for i := range len(text) {
		b := text[i]
		inSample = b != ';' && (inSample || b == '@')
		switch {
		case inSample:
			out.WriteByte(b)
		case b == ' ' && isLetter(text[i-1]) && i+1 < len(text) && isLetter(text[i+1]):
			out.WriteString(strings.Repeat(" ", 1+source.Intn(2)))
		case b == ' ':
			out.WriteString(strings.Repeat(" ", source.Intn(3)))
		case b == ',' || b == ':' || b == ';':
			out.WriteString(strings.Repeat(" ", source.Intn(2)) + string(b) + strings.Repeat(" ", source.Intn(2)))
		default:
			out.WriteByte(b)
		}
	}
	return out.String()
}
