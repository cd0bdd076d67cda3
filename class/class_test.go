package class

import (
	"math"
	"math/rand"
	"regexp"
	"slices"
	"strconv"
	"strings"
	"testing"
	"unicode/utf8"

	"florin/api"
)

const (
	least = math.MinInt32
	most  = math.MaxInt32
)

// span is numbers from one to another; one is a number alone.
func span(lo, hi rune) Range { return Range{Lo: lo, Hi: hi} }
func one(r rune) Range       { return Range{Lo: r, Hi: r} }

// settled tells whether ranges rise from 0 to Top, with a number between each two.
func settled(c Class) bool {
	next := rune(0)
	for _, x := range c {
		if x.Lo < next || x.Hi < x.Lo || x.Hi > Top {
			return false
		}
		next = x.Hi + 2
	}
	return true
}

// anyHas tells whether a number from 0 to Top lies in one of some ranges, found one by one.
func anyHas(list []Range, r rune) bool {
	return r >= 0 && r <= Top && slices.ContainsFunc(list, func(x Range) bool { return x.Lo <= r && r <= x.Hi })
}

// near is the numbers that are held against each other: all at the edges of what random ranges are made of.
func near() []rune {
	list := []rune{least, least + 1, 0xd7ff, 0xd800, 0xdfff, 0xe000, 5000, most - 1, most}
	for r := rune(-6); r < 30; r++ {
		list = append(list, r, Top+r-20)
	}
	return list
}

// randomRanges is some ranges next to both ends, a few of them without numbers, or beyond the ends.
func randomRanges(source *rand.Rand) []Range {
	var list []Range
	for range source.Intn(7) {
		lo := rune(source.Intn(28) - 4)
		hi := lo + rune(source.Intn(7)-2)
		switch source.Intn(8) {
		case 0:
			hi = Top + lo - 20
		case 1:
			lo = least
		case 2:
			hi = most
		case 3, 4:
			lo, hi = Top+lo-20, Top+hi-20
		}
		list = append(list, span(lo, hi))
	}
	return list
}

// wantClass fails unless a class is these ranges.
func wantClass(t *testing.T, got Class, want ...Range) {
	t.Helper()
	if !slices.Equal(got, want) {
		t.Errorf("%v, not %v", got, want)
	}
}

// P10.1

func TestTop(t *testing.T) {
	if Top != utf8.MaxRune {
		t.Errorf("Top is %x", Top)
	}
}

func TestMade(t *testing.T) {
	wantClass(t, Made())
	wantClass(t, Made([]Range{}...))
	wantClass(t, Made(one(5)), one(5))
	wantClass(t, Made(span(3, 5), span(1, 2), span(9, 8)), span(1, 5))
	wantClass(t, Made(span(1, 2), span(4, 5)), span(1, 2), span(4, 5))
	wantClass(t, Made(span(4, 5), span(1, 2)), span(1, 2), span(4, 5))
	wantClass(t, Made(span(1, 9), span(2, 3)), span(1, 9))
	wantClass(t, Made(span(2, 3), span(1, 9), span(11, 12)), span(1, 9), span(11, 12))
	wantClass(t, Made(span(1, 4), span(4, 6), span(6, 6)), span(1, 6))
	wantClass(t, Made(one(3), one(1), one(2), one(3), one(1)), span(1, 3))
	wantClass(t, Made(span(0xd800, 0xdfff)), span(0xd800, 0xdfff))
}

func TestMadeKeepsWithinItsEnds(t *testing.T) {
	wantClass(t, Made(span(0, Top)), span(0, Top))
	wantClass(t, Made(span(least, most)), span(0, Top))
	wantClass(t, Made(span(-5, 3), span(Top-2, Top+2)), span(0, 3), span(Top-2, Top))
	wantClass(t, Made(one(0), one(Top)), one(0), one(Top))
	wantClass(t, Made(one(-1), one(Top+1), one(least), one(most)))
	wantClass(t, Made(span(least, -1), span(Top+1, most)))
	wantClass(t, Made(span(least, 0), span(Top, most)), one(0), one(Top))
	wantClass(t, Made(span(most, least), span(Top, 0), span(5, 4), span(0, -1), span(Top+1, Top), span(1, least)))
	wantClass(t, Made(span(most, least), one(7)), one(7))
}

func TestMadeOfRandomRanges(t *testing.T) {
	source := rand.New(rand.NewSource(1))
	for range 20000 {
		list := randomRanges(source)
		ahead := slices.Clone(list)
		c := Made(list...)
		if !settled(c) {
			t.Fatalf("%v isn't settled: %v", c, list)
		}
		if !slices.Equal(list, ahead) {
			t.Fatalf("%v was turned into %v", ahead, list)
		}
		for _, r := range near() {
			if c.Has(r) != anyHas(list, r) {
				t.Fatalf("%v has %d: %v", c, r, c.Has(r))
			}
		}
		source.Shuffle(len(list), func(i, j int) { list[i], list[j] = list[j], list[i] })
		if !Made(list...).Same(c) {
			t.Fatalf("%v in another order is another class", list)
		}
	}
}

func TestMadeOfManyRanges(t *testing.T) {
	var list []Range
	for r := Top; r >= 0; r -= 2 {
		list = append(list, one(r))
	}
	c := Made(list...)
	if len(c) != len(list) || !settled(c) || !c.Has(Top) || c.Has(0) || !c.Has(1) {
		t.Fatalf("%d ranges of %d", len(c), len(list))
	}
	rest := c.Not()
	if len(rest) != len(list) || rest.Has(Top) || !rest.Has(0) || !rest.Or(c).Same(Class{span(0, Top)}) || len(rest.And(c)) != 0 {
		t.Error("what isn't in a class of many ranges is told wrongly")
	}
}

func TestHas(t *testing.T) {
	c := Made(span('a', 'c'), one('x'), span(0x20ac, 0x20ae))
	for r, want := range map[rune]bool{'a': true, 'b': true, 'c': true, 'x': true, 0x20ac: true, 0x20ad: true, 0x20ae: true, '`': false, 'd': false, 'w': false, 'y': false, 0x20ab: false, 0x20af: false, 0: false, Top: false, -1: false, Top + 1: false, least: false, most: false} {
		if c.Has(r) != want {
			t.Errorf("%x: %v", r, !want)
		}
	}
	all := Made(span(0, Top))
	for r, want := range map[rune]bool{0: true, Top: true, 0xd800: true, -1: false, Top + 1: false, least: false, most: false} {
		if all.Has(r) != want || Made().Has(r) || Class(nil).Has(r) {
			t.Errorf("%x of all, or none", r)
		}
	}
}

func TestSetsOfTwo(t *testing.T) {
	a, b := Made(span(1, 5), one(9)), Made(span(4, 7), one(8))
	wantClass(t, a.Or(b), span(1, 9))
	wantClass(t, a.And(b), span(4, 5))
	wantClass(t, a.Minus(b), span(1, 3), one(9))
	wantClass(t, b.Minus(a), span(6, 8))
	wantClass(t, a.Not(), one(0), span(6, 8), span(10, Top))
	wantClass(t, Made().Not(), span(0, Top))
	wantClass(t, Made(span(0, Top)).Not())
	wantClass(t, Made(one(0)).Not(), span(1, Top))
	wantClass(t, Made(one(Top)).Not(), span(0, Top-1))
	wantClass(t, Made(one(0), one(Top)).Not(), span(1, Top-1))
	wantClass(t, Made(one(1)).Or(Made(one(2))), span(1, 2))
	wantClass(t, Made(one(1)).Or(Made(one(3))), one(1), one(3))
	wantClass(t, Made(span(1, 9)).Minus(Made(one(5))), span(1, 4), span(6, 9))
	wantClass(t, a.Minus(a))
	wantClass(t, a.And(a), a...)
	wantClass(t, a.Or(nil), a...)
	wantClass(t, a.And(nil))
	wantClass(t, a.Minus(nil), a...)
	wantClass(t, Class(nil).Minus(a))
	wantClass(t, Class(nil).Or(a), a...)
}

func TestSetsOfRandomRanges(t *testing.T) {
	source := rand.New(rand.NewSource(2))
	for range 10000 {
		a, b := Made(randomRanges(source)...), Made(randomRanges(source)...)
		aAhead, bAhead := slices.Clone(a), slices.Clone(b)
		or, and, not, minus := a.Or(b), a.And(b), a.Not(), a.Minus(b)
		for _, c := range []Class{or, and, not, minus} {
			if !settled(c) {
				t.Fatalf("%v isn't settled: %v, %v", c, a, b)
			}
		}
		for _, r := range near() {
			inA, inB, inside := anyHas(a, r), anyHas(b, r), r >= 0 && r <= Top
			if or.Has(r) != (inA || inB) || and.Has(r) != (inA && inB) || not.Has(r) != (inside && !inA) || minus.Has(r) != (inA && !inB) {
				t.Fatalf("%d: of %v and %v: Or %v, And %v, Not %v, Minus %v", r, a, b, or, and, not, minus)
			}
		}
		if !slices.Equal(a, aAhead) || !slices.Equal(b, bAhead) {
			t.Fatalf("%v, %v were turned into %v, %v", aAhead, bAhead, a, b)
		}
		if a.Same(b) != slices.Equal(a, b) || !a.Same(not.Not()) || !minus.Same(a.And(b.Not())) || !or.Same(b.Or(a)) || !and.Same(b.And(a)) {
			t.Fatalf("%v and %v break a law of sets", a, b)
		}
	}
}

func TestSame(t *testing.T) {
	c := Made(span(1, 5), one(9))
	for _, o := range []Class{nil, {}, Made(span(1, 5)), Made(span(1, 5), one(8)), Made(span(1, 4), one(9)), Made(span(0, 5), one(9)), Made(span(1, 5), span(9, 10)), Made(span(1, 5), one(9), one(11))} {
		if c.Same(o) || o.Same(c) {
			t.Errorf("%v and %v are one", c, o)
		}
	}
	if !c.Same(Made(one(9), span(1, 5))) || !c.Same(c) || !Class(nil).Same(Class{}) || !(Class{}).Same(nil) || !Made().Same(nil) {
		t.Error("one class is two")
	}
}

func TestAnswersAreNewMemory(t *testing.T) {
	c, o := Made(span(1, 5), one(9)), Made(span(20, 25))
	list := []Range{span(1, 5)}
	for name, got := range map[string]Class{"Made": Made(list...), "Or": c.Or(o), "Or none": c.Or(nil), "none Or": Class(nil).Or(c), "And": c.And(c), "Minus": c.Minus(o), "Not": c.Not(), "Not Not": c.Not().Not()} {
		for i := range got {
			got[i] = one(77)
		}
		if !slices.Equal(c, []Range{span(1, 5), one(9)}) || !slices.Equal(o, []Range{span(20, 25)}) || list[0] != span(1, 5) {
			t.Fatalf("%s shares memory with what was handed in", name)
		}
	}
}

func TestUnsettledRangesEnd(t *testing.T) {
	edges := []rune{least, -1, 0, 5, 9, Top, Top + 1, most}
	var wild []Range
	for _, lo := range edges {
		for _, hi := range edges {
			wild = append(wild, span(lo, hi))
		}
	}
	source := rand.New(rand.NewSource(3))
	for range 2000 {
		var c, o Class
		for range 1 + source.Intn(6) {
			c = append(c, wild[source.Intn(len(wild))])
			o = append(o, wild[source.Intn(len(wild))])
		}
		for _, x := range []Class{c, c.Or(o), c.And(o), c.Not(), c.Minus(o)} {
			for _, r := range edges {
				x.Has(r)
			}
			_ = x.String()
			x.Same(o)
		}
	}
}

// P10.2

// wantParsed fails unless a text is just these ranges.
func wantParsed(t *testing.T, s string, want ...Range) {
	t.Helper()
	c, e, at := Parse(s)
	if e != api.OK || at != 0 || !slices.Equal(c, want) {
		t.Errorf("%q is %v, %d at %d, not %v", s, c, e, at, want)
	}
}

// wantFault fails unless a text has an error at this place.
func wantFault(t *testing.T, s string, at int) {
	t.Helper()
	c, e, got := Parse(s)
	if len(c) != 0 || e != api.ErrForm || got != at {
		t.Errorf("%q is %v, %d at %d, not an error at %d", s, c, e, got, at)
	}
}

func TestParse(t *testing.T) {
	wantParsed(t, "[]")
	wantParsed(t, "[^]", span(0, Top))
	wantParsed(t, "[a]", one('a'))
	wantParsed(t, "[a-c x]", span('a', 'c'), one('x'))
	wantParsed(t, "[xa-c]", span('a', 'c'), one('x'))
	wantParsed(t, "[abc]", span('a', 'c'))
	wantParsed(t, "[cbaabc]", span('a', 'c'))
	wantParsed(t, "[a-a]", one('a'))
	wantParsed(t, "[a-cb-e]", span('a', 'e'))
	wantParsed(t, "[^a-c]", span(0, 'a'-1), span('c'+1, Top))
	wantParsed(t, `[^\u{0}-\u{10ffff}]`)
	wantParsed(t, "[€é-𝟡]", span('é', '𝟡'))
	wantParsed(t, "[!-,]", span('!', ','))
	wantParsed(t, "[\ufffd\U0010ffff]", one(0xfffd), one(Top))
	wantParsed(t, "[\x00\t\n\x7f\u00a0]", one(0), span('\t', '\n'), one(0x7f), one(0xa0))
	wantParsed(t, "[{u}]", one('u'), one('{'), one('}'))
}

func TestParseOfEscapes(t *testing.T) {
	for _, r := range `[]-^\ ` {
		wantParsed(t, `[\`+string(r)+`]`, one(r))
		wantParsed(t, `[^\`+string(r)+`]`, span(0, r-1), span(r+1, Top))
		wantParsed(t, `[ \`+string(r)+` - \`+string(r)+` ]`, one(r))
	}
	wantParsed(t, `[\[\]\-\^\\\ ]`, one(' '), one('-'), span('[', '^'))
	wantParsed(t, `[\ -\-]`, span(' ', '-'))
	wantParsed(t, `[\--a]`, span('-', 'a'))
	wantParsed(t, `[\  ]`, one(' '))
	for text, r := range map[string]rune{"0": 0, "00": 0, "000000": 0, "41": 'A', "0041": 'A', "000041": 'A', "a": 10, "f": 15, "d800": 0xd800, "dfff": 0xdfff, "20ac": 0x20ac, "ffff": 0xffff, "10ffff": Top, "0fffff": 0xfffff, "abcde": 0xabcde, "5d": ']', "20": ' '} {
		wantParsed(t, `[\u{`+text+`}]`, one(r))
		wantParsed(t, `[\u{`+text+`}-\u{10ffff}]`, span(r, Top))
		wantParsed(t, `[\u{0}-\u{`+text+`}]`, span(0, r))
	}
}

func TestParseOfWrongEscapes(t *testing.T) {
	wrong := []string{`\`, `\a`, `\u`, `\u0041`, `\u{`, `\u{}`, `\u{41`, `\u{41 }`, `\u{ 41}`, `\u {41}`, `\U{41}`, `\u{110000}`, `\u{ffffff}`, `\u{0000041}`, `\u{0000000}`, `\u{00110000}`, `\u{A}`, `\u{4F}`, `\u{g}`, `\u{-1}`, `\u{+1}`, `\u{4_1}`, `\u{0x41}`, `\u{41-42}`, `\u{٣}`, `\x41`, `\n`, `\0`, `\"`, `\.`, `\€`, "\\\xff", "\\\t", "\\\u00a0", "\\\x00"}
	for _, x := range wrong {
		for ahead, at := range map[string]int{"[": 1, "[a": 2, "[a-": 3, "[^": 2, "[   ": 4, "[a   -   ": 9, "[a-b": 4, `[\u{41}`: 7, `[\\`: 3, "[€": 4} {
			wantFault(t, ahead+x, at)
			if x != `\` { // a ] behind it would make it an escape
				wantFault(t, ahead+x+"]", at)
				wantFault(t, ahead+x+"-z]", at)
			}
		}
		wantFault(t, x, 0)
		wantFault(t, "[] "+x, 3)
	}
}

func TestParseOfWrongBytes(t *testing.T) {
	for _, bad := range []string{"\xff", "\x80", "\xe2", "\xe2\x82", "\xed\xa0\x80", "\xf4\x90\x80\x80", "\xc0\x80", "\xf0\x9f\x92"} {
		for ahead, at := range map[string]int{"": 0, "  ": 2, "[": 1, "[^": 2, "[a": 2, "[a-": 3, "[a- ": 4, "[€": 4, "[] ": 3} {
			wantFault(t, ahead+bad+"]", at)
			wantFault(t, ahead+bad, at)
		}
	}
}

func TestParseOfFaults(t *testing.T) {
	for s, at := range map[string]int{
		"": 0, " ": 1, "a": 0, "a]": 0, "]": 0, "^": 0, "-": 0, "  a": 2,
		"[": 1, "[ ": 2, "[a": 2, "[a ": 3, "[a-": 3, "[a- ": 4, "[^": 2, "[^ ": 3, "[^a": 3, "[a-b": 4,
		"[[]": 1, "[a[]": 2, "[-a]": 1, "[-]": 1, "[^-a]": 2, "[a-]": 3, "[a--b]": 3, "[a-b-c]": 4, "[a-b -c]": 5, "[a-^]": 3, "[a-[]": 3,
		"[^^]": 2, "[^ ^]": 3, "[a^]": 2, "[a^b]": 2, "[a-b^]": 4,
		"[]]": 2, "[]a": 2, "[] a": 3, "[a]  b": 5, "[][]": 2, "[]^": 2, "[]-": 2,
		"[b-a]": 3, "[b- a]": 4, "[b -  a]": 6, "[b-a": 3, "[ab-a]": 4, "[a-cz-y]": 6, `[b-\u{61}]`: 3, `[b-\ ]`: 3, `[\]-\[]`: 4, "[€-é]": 5, "[b-a]]": 3, "[a-b-a]": 4,
		"\t[]": 0, "[]\n": 2, "[]\x00": 2, "[]\u00a0": 2,
	} {
		wantFault(t, s, at)
	}
}

func TestBlanksBetweenAllAndNone(t *testing.T) {
	tokens := []string{"[", "^", "a", "-", "c", `\-`, "-", `\u{2f}`, "x", `\ `, "€", "]"}
	want := Made(span('a', 'c'), span('-', '/'), one('x'), one(' '), one('€')).Not()
	for _, gap := range []string{"", " ", "  ", "       "} {
		wantParsed(t, gap+strings.Join(tokens, gap)+gap, want...)
	}
	for i := range tokens {
		wantParsed(t, strings.Join(tokens[:i], "")+"    "+strings.Join(tokens[i:], ""), want...)
		wantParsed(t, strings.Join(tokens[:i], " ")+strings.Join(tokens[i:], " "), want...)
	}
}

// token is a sign of the grammar as it stands in a text, its kind (one of the grammar's marks, n for a number, ! for what isn't one, or a blank), and its number.
type token struct {
	text string
	kind byte
	n    rune
}

// machine reads tokens by the states of the grammar: which ranges they are, or the place at which nothing goes on.
func machine(list []token) (ranges []Range, others, ok bool, at int) {
	steps := map[string]string{
		"start[": "open", "open^": "body", "open]": "end", "openn": "one",
		"body]": "end", "bodyn": "one", "one]": "end", "onen": "one", "one-": "dash", "dashn": "body",
	}
	state := "start"
	for _, x := range list {
		if x.kind != ' ' {
			next, goes := steps[state+string(x.kind)]
			if !goes || state == "dash" && x.n < ranges[len(ranges)-1].Lo {
				return nil, false, false, at
			}
			switch {
			case state == "dash":
				ranges[len(ranges)-1].Hi = x.n
			case x.kind == 'n':
				ranges = append(ranges, one(x.n))
			case x.kind == '^':
				others = true
			}
			state = next
		}
		at += len(x.text)
	}
	return ranges, others, state == "end", at
}

func TestParseAgainstAMachineOfStates(t *testing.T) {
	signs := []token{{"[", '[', 0}, {"]", ']', 0}, {"^", '^', 0}, {"-", '-', 0}, {" ", ' ', 0}, {"b", 'n', 'b'}, {`\u{63}`, 'n', 'c'}, {`\-`, 'n', '-'}, {"é", 'n', 'é'}, {`\b`, '!', 0}, {"\xe2", '!', 0}}
	var list []token
	var all func(left int)
	all = func(left int) {
		var text strings.Builder
		for _, x := range list {
			text.WriteString(x.text)
		}
		s := text.String()
		ranges, others, ok, at := machine(list)
		if !ok {
			wantFault(t, s, at)
		} else if others {
			wantParsed(t, s, Made(ranges...).Not()...)
		} else {
			wantParsed(t, s, Made(ranges...)...)
		}
		if left == 0 || t.Failed() {
			return
		}
		for _, x := range signs {
			list = append(list, x)
			all(left - 1)
			list = list[:len(list)-1]
		}
	}
	all(4)
	list = []token{signs[0]}
	all(5)
	list = []token{signs[0], signs[2], signs[5], signs[3]}
	all(4)
}

func TestEveryCodePointStandsForItself(t *testing.T) {
	for r := rune(0); r <= Top; r++ {
		var want Class
		if !strings.ContainsRune(`[]-^\ `, r) && (r < 0xd800 || r > 0xdfff) {
			want = Class{one(r)}
			if c, e, at := Parse("[" + string(r) + "]"); e != api.OK || at != 0 || !c.Same(want) {
				t.Fatalf("%U is %v, %d at %d", r, c, e, at)
			}
		}
		want = Class{one(r)}
		if c, e, at := Parse(`[\u{` + strconv.FormatInt(int64(r), 16) + "}]"); e != api.OK || at != 0 || !c.Same(want) {
			t.Fatalf("%U by its number is %v, %d at %d", r, c, e, at)
		}
	}
}

// P10.3

func TestString(t *testing.T) {
	for s, want := range map[string]string{
		"[]":                       "[]",
		"[ a-c x ]":                "[a-cx]",
		"[a-c x \\u{20ac}\\- ]":    "[\\u{2d}a-cx\\u{20ac}]",
		"[ab]":                     "[a-b]",
		"[0-9A-Za-z]":              "[0-9A-Za-z]",
		"[/-:]":                    `[\u{2f}-\u{3a}]`,
		"[@-\\[]":                  `[\u{40}-\u{5b}]`,
		"[`-{]":                    `[\u{60}-\u{7b}]`,
		"[9-A]":                    "[9-A]",
		"[Z-a]":                    "[Z-a]",
		"[\\ ]":                    `[\u{20}]`,
		"[é]":                      `[\u{e9}]`,
		"[\\u{0}]":                 `[\u{0}]`,
		"[\\u{00000a}]":            `[\u{a}]`,
		"[^]":                      `[\u{0}-\u{10ffff}]`,
		"[^a]":                     `[\u{0}-\u{60}b-\u{10ffff}]`,
		"[\\u{d800}]":              `[\u{d800}]`,
		"[\\u{abcde}-\\u{10fffe}]": `[\u{abcde}-\u{10fffe}]`,
		"[٣]":                      `[\u{663}]`,
	} {
		c, e, _ := Parse(s)
		if e != api.OK || c.String() != want {
			t.Errorf("%q is written %q, not %q", s, c.String(), want)
		}
	}
	if Class(nil).String() != "[]" || Made().String() != "[]" {
		t.Error("of no numbers there is something written")
	}
}

func TestStringOfEveryNumber(t *testing.T) {
	plain := regexp.MustCompile(`^[0-9A-Za-z]$`)
	for r := rune(0); r <= Top; r++ {
		want := `\u{` + strconv.FormatInt(int64(r), 16) + "}"
		if r < 0x80 && plain.MatchString(string(r)) {
			want = string(r)
		}
		if got := (Class{one(r)}).String(); got != "["+want+"]" {
			t.Fatalf("%U is written %q", r, got)
		}
	}
}

func TestParseTellsWhatStringWrote(t *testing.T) {
	source := rand.New(rand.NewSource(4))
	for range 20000 {
		list := randomRanges(source)
		for range source.Intn(5) {
			lo := rune(source.Intn(0x180))
			list = append(list, span(lo, lo+rune(source.Intn(20))))
		}
		c := Made(list...)
		got, e, at := Parse(c.String())
		if e != api.OK || at != 0 || !got.Same(c) {
			t.Fatalf("%q is %v, %d at %d, not %v", c.String(), got, e, at, c)
		}
	}
}
