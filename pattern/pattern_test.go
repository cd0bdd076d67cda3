package pattern

import (
	"math"
	"math/rand"
	"regexp"
	"slices"
	"strings"
	"testing"
	"unicode/utf8"

	"florin/api"
)

// lit is a piece of literals; cur one of so many ¤; the others stand for themselves.
func lit(text string) Piece { return Piece{Kind: Lit, Text: text} }
func cur(n int) Piece       { return Piece{Kind: Cur, N: n} }

var (
	minus    = Piece{Kind: Minus}
	plus     = Piece{Kind: Plus}
	percent  = Piece{Kind: Percent}
	permille = Piece{Kind: Permille}
)

// row is pieces side by side.
func row(list ...Piece) []Piece { return list }

// sameSides tells whether sides have the same pieces; nil and empty are one.
func sameSides(a, b Sides) bool { return slices.Equal(a.Pre, b.Pre) && slices.Equal(a.Suf, b.Suf) }

// same tells whether two patterns are one.
func same(p, q Pattern) bool {
	numbers := func(p Pattern) [6]int {
		return [...]int{p.Hash, p.MinInt, p.MinFrac, p.MaxFrac, p.Group, p.More}
	}
	return sameSides(p.Pos, q.Pos) && sameSides(p.Neg, q.Neg) && p.Two == q.Two && numbers(p) == numbers(q)
}

// wantPattern fails unless a text is that pattern.
func wantPattern(t *testing.T, s string, want Pattern) {
	t.Helper()
	if p, e, at := Parse(s); e != api.OK || at != 0 || !same(p, want) {
		t.Errorf("%q is %#v, %d at %d, not %#v", s, p, e, at, want)
	}
}

// wantError fails unless a text has that error there, and nothing beside it.
func wantError(t *testing.T, s string, want api.Errno, place int) {
	t.Helper()
	if p, e, at := Parse(s); e != want || at != place || !same(p, Pattern{}) {
		t.Errorf("%q is %#v, %d at %d, not %d at %d", s, p, e, at, want, place)
	}
}

// read is the pattern of a text that is one.
func read(t *testing.T, s string) Pattern {
	t.Helper()
	p, e, at := Parse(s)
	if e != api.OK {
		t.Fatalf("%q: %d at %d", s, e, at)
	}
	return p
}

// P11.1

func TestKinds(t *testing.T) {
	for want, k := range []Kind{Lit, Minus, Plus, Percent, Permille, Cur} {
		if int(k) != want {
			t.Errorf("%d isn't %d", k, want)
		}
	}
}

func TestExampleOfTheChapter(t *testing.T) {
	wantPattern(t, "¤#,##0.00;(¤#,##0.00)", Pattern{
		Pos: Sides{Pre: row(cur(1))}, Neg: Sides{Pre: row(lit("("), cur(1)), Suf: row(lit(")"))},
		Two: true, Hash: 3, MinInt: 1, MinFrac: 2, MaxFrac: 2, Group: 3,
	})
}

func TestNumbers(t *testing.T) {
	for s, want := range map[string]Pattern{
		"0":            {MinInt: 1},
		"#":            {Hash: 1},
		"000":          {MinInt: 3},
		"###":          {Hash: 3},
		"##00":         {Hash: 2, MinInt: 2},
		"0.0":          {MinInt: 1, MinFrac: 1, MaxFrac: 1},
		"0.#":          {MinInt: 1, MaxFrac: 1},
		"#.#":          {Hash: 1, MaxFrac: 1},
		"#0.00###":     {Hash: 1, MinInt: 1, MinFrac: 2, MaxFrac: 5},
		"#,#":          {Hash: 2, Group: 1},
		"0,0":          {MinInt: 2, Group: 1},
		"#,0":          {Hash: 1, MinInt: 1, Group: 1},
		"#,##0":        {Hash: 3, MinInt: 1, Group: 3},
		"##,#0":        {Hash: 3, MinInt: 1, Group: 2},
		"#0,000":       {Hash: 1, MinInt: 4, Group: 3},
		"#,##,##0.0#":  {Hash: 5, MinInt: 1, MinFrac: 1, MaxFrac: 2, Group: 3, More: 2},
		"#,#,###":      {Hash: 5, Group: 3, More: 1},
		"0,0000,00":    {MinInt: 7, Group: 2, More: 4},
		"#,##0,0":      {Hash: 3, MinInt: 2, Group: 1, More: 3},
		"#,###,##0":    {Hash: 6, MinInt: 1, Group: 3},
		"0,0,0":        {MinInt: 3, Group: 1},
		"####,#,#":     {Hash: 6, Group: 1},
		"#####,00,000": {Hash: 5, MinInt: 5, Group: 3, More: 2},
	} {
		wantPattern(t, s, want)
		want.Pos = Sides{Pre: row(minus), Suf: row(lit(" a"), percent)}
		wantPattern(t, "-"+s+" a%", want)
		want.Two = true
		wantPattern(t, "-"+s+" a%;0", want)
		want.Neg = Sides{Pre: row(lit("a"))}
		wantPattern(t, "-"+s+" a%;a"+s, want)
	}
}

func TestPieces(t *testing.T) {
	for s, want := range map[string][]Piece{
		"":                  nil,
		"-":                 {minus},
		"+":                 {plus},
		"%":                 {percent},
		"‰":                 {permille},
		"¤":                 {cur(1)},
		"¤¤":                {cur(2)},
		"¤¤¤¤¤":             {cur(5)},
		"¤-¤¤":              {cur(1), minus, cur(2)},
		"¤ ¤":               {cur(1), lit(" "), cur(1)},
		"--":                {minus, minus},
		"-+%‰%+":            {minus, plus, percent, permille, percent, plus},
		"a":                 {lit("a")},
		"  a b":             {lit("  a b")},
		"é€𝄞":               {lit("é€𝄞")},
		"\x00\n\u00a0":      {lit("\x00\n\u00a0")},
		"(&\"/\\[]{}<>|~^`": {lit("(&\"/\\[]{}<>|~^`")},
		"a-b":               {lit("a"), minus, lit("b")},
		"¥¤²":               {lit("¥"), cur(1), lit("²")},
		"−–٪؉٠１":            {lit("−–٪؉٠１")},
		// quotes
		"'a'":                          {lit("a")},
		"''":                           {lit("'")},
		"''''":                         {lit("''")},
		"o''clock":                     {lit("o'clock")},
		"'o''clock'":                   {lit("o'clock")},
		"'''a'":                        {lit("'a")},
		"'a'''":                        {lit("a'")},
		"'a''''b'":                     {lit("a''b")},
		"'a'b'c'":                      {lit("abc")},
		"'a''b'":                       {lit("a'b")},
		"a'b'''c":                      {lit("ab'c")},
		"'#0123456789,.;@*-+%‰¤'":      {lit("#0123456789,.;@*-+%‰¤")},
		"'¤'":                          {lit("¤")},
		"¤'¤'¤":                        {cur(1), lit("¤"), cur(1)},
		"'-'-'-'":                      {lit("-"), minus, lit("-")},
		"'%'''-''":                     {lit("%'"), minus, lit("'")},
		"' '":                          {lit(" ")},
		"'\U0010ffff\ufffd'\U0010ffff": {lit("\U0010ffff\ufffd\U0010ffff")},
	} {
		wantPattern(t, s+"0", Pattern{Pos: Sides{Pre: want}, MinInt: 1})
		wantPattern(t, "0"+s, Pattern{Pos: Sides{Suf: want}, MinInt: 1})
		wantPattern(t, s+"#.#"+s+";0", Pattern{Pos: Sides{want, want}, Two: true, Hash: 1, MaxFrac: 1})
		wantPattern(t, "0;"+s+"0"+s, Pattern{Neg: Sides{want, want}, Two: true, MinInt: 1})
		wantPattern(t, "0;"+s+"0x", Pattern{Neg: Sides{want, row(lit("x"))}, Two: true, MinInt: 1})
	}
}

func TestSecondNumberMakesNoDifference(t *testing.T) {
	for _, number := range []string{"0", "#", "000.000", "#,##0", "#,##,##0.##", "#,#,#"} {
		wantPattern(t, "#,##0.0#;("+number+")", Pattern{Neg: Sides{row(lit("(")), row(lit(")"))}, Two: true, Hash: 3, MinInt: 1, MinFrac: 1, MaxFrac: 2, Group: 3})
		wantPattern(t, "0;"+number, Pattern{Two: true, MinInt: 1})
	}
}

func TestEachSignIsALiteralOrNot(t *testing.T) {
	for r := rune(0); r <= utf8.MaxRune; r++ {
		sign := string(r)
		if r >= 0xd800 && r <= 0xdfff {
			continue // no sign of UTF-8
		}
		bare := !strings.ContainsRune("#0123456789,.;@*-+%'‰¤", r)
		p, e, _ := Parse(sign + "0")
		if got := e == api.OK && slices.Equal(p.Pos.Pre, row(lit(sign))); got != bare {
			t.Errorf("%q is a literal: %v", sign, got)
		}
		if r == '\'' {
			continue
		}
		p, e, _ = Parse("0'" + sign + "'")
		if e != api.OK || !slices.Equal(p.Pos.Suf, row(lit(sign))) {
			t.Errorf("%q in quotes is %v, %d", sign, p.Pos.Suf, e)
		}
	}
}

// P11.2

// faults is texts with a ^ where their error is.
var faults = []string{
	// no number
	"^", "a^", "-^", "¤¤^", "''^", "'0'^", " ^", "0;^", "0;a^", "0;-¤'0'^", "€‰^",
	// signs that are no literals
	"^5", "^@0", "^*0", "^;0", "^.0", "^,0", "a^9", "-^1", "0^5", "0a^5", "0a^@", "0^*", "0-^*0", "0;^@0", "0;a^.0", "0;^;", "€^.5",
	// a number behind another one
	"0a^0", "0 ^#", "0-^0", "0''^0", "0'a'^0", "0.0a^0", "0;0a^0", "0a^.0", "0a^,0",
	// places
	"0^#", "00^##", "#0^#", "0,^#", "#,0^#", "0,0^#", "#0,^#0", "#,00,^#", "0;0^#",
	// commas
	"0,^", "#,^", "#,^,0", "#,#,^,0", "#,#,^", "#,#,#^,0", "0,0,0^,0", "0,0,0^,", "#,^.0", "#,^;0", "#,^a", "#,^-", "#,^'", "#,^ 0", "# ^,0", "0.0^,0", "0.^,0", "0.0#^,#", "0;#,^", "0;0,0,0^,0",
	// behind the point
	"0.^", "#.^", "0.^a", "0.^;0", "0.^.", "0.^-", "0.^5", "0.^ 0", "0.#^0", "0.0#^0", "0.0^.0", "0.##^00", "0.0^5", "0;0.^", "0;0.#^0",
	// a quote that isn't closed
	"'^", "'a^", "'''^", "'0^", "'a''^", "0'^", "0'a^", "0 'a;0^", "0;'a^", "0;0'^", "''''' 0^", "''''#'0^", "0'a''''b^", "0;'c''d''0^", "'€^",
	// a second ;
	"0;0^;", "0;0^;0", "0a;-0b^;0", "^;", "0;^;0",
}

func TestErrorsAndTheirPlaces(t *testing.T) {
	for _, s := range faults {
		ahead, behind, _ := strings.Cut(s, "^")
		for _, pre := range []string{"", "x", "¤", "'#'", "''"} {
			if pre == "''" && strings.HasPrefix(ahead, quote) {
				continue // it would be another quote
			}
			wantError(t, pre+ahead+behind, api.ErrForm, len(pre+ahead))
		}
		if behind != "" {
			wantError(t, ahead+behind+"0", api.ErrForm, len(ahead))
		}
	}
}

func TestBytesAreBounded(t *testing.T) {
	for _, s := range []string{"0", "#,##0.00;(0)", "¤0", "'#'0"} {
		fill := strings.Repeat("x", 100-len(s))
		read(t, s+fill)
		wantError(t, s+fill+"x", api.ErrLong, 0)
		wantError(t, s+fill+strings.Repeat("x", 100000), api.ErrLong, 0)
	}
	// They are bytes, not signs.
	read(t, "0"+strings.Repeat("€", 33))
	wantError(t, "00"+strings.Repeat("€", 33), api.ErrLong, 0)
	wantPattern(t, strings.Repeat("0", 100), Pattern{MinInt: 100})
	wantPattern(t, strings.Repeat("¤", 49)+"#0", Pattern{Pos: Sides{Pre: row(cur(49))}, Hash: 1, MinInt: 1})

	// More of them come ahead of whatever else is wrong, and as many as may be don't.
	wantError(t, "5"+strings.Repeat("x", 100), api.ErrLong, 0)
	wantError(t, "\xff"+strings.Repeat("x", 100), api.ErrLong, 0)
	wantError(t, strings.Repeat("x", 100)+"\xff", api.ErrLong, 0)
	wantError(t, strings.Repeat("x", 100), api.ErrForm, 100)
	wantError(t, "'"+strings.Repeat("x", 99), api.ErrForm, 100)
	wantError(t, strings.Repeat("x", 99)+"\xff", api.ErrForm, 99)
}

func TestFirstByteThatBeginsNoSign(t *testing.T) {
	for _, wrong := range []string{
		"\xff", "\x80", "\xbf", "\xc0\x80", "\xc1\xbf", "\xc3", "\xc2", "\xe2\x82", "\xe2", "\xe2\x82(", "\xc3(", "\xe0\x80\x80",
		"\xed\xa0\x80", "\xed\xbf\xbf", "\xf0\x9d\x84", "\xf4\x90\x80\x80", "\xf8\x88\x80\x80\x80", "\xf0\x80\x80\x80",
	} {
		for _, ahead := range []string{"", "0", "'", "'a", "0'", "€", "0;é", "¤0.0#", "''", "'\ufffd'0"} {
			wantError(t, ahead+wrong, api.ErrForm, len(ahead))
			wantError(t, ahead+wrong+"0'\xff", api.ErrForm, len(ahead))
		}
		// It comes ahead of all that is wrong to its left.
		for _, ahead := range []string{"5", "0#", "0,,", "@", ";;;", "0a0", "0.", "5€"} {
			wantError(t, ahead+wrong, api.ErrForm, len(ahead))
			wantError(t, ahead+"a"+wrong+"@", api.ErrForm, len(ahead)+1)
		}
	}
	// What wrong bytes are often told as is a sign itself.
	wantPattern(t, "\ufffd0'\ufffd#'", Pattern{Pos: Sides{row(lit("\ufffd")), row(lit("\ufffd#"))}, MinInt: 1})
}

// The grammar as a machine of states: where it stands, in which half, and behind how many commas.
type state struct {
	spot   string
	half   int
	commas int
}

// edges is which spot a sign leads to from which one; what leads nowhere is an error. Signs are told by kind: a literal or a sign of its own as a, one that is none as 5.
var edges = map[string]string{
	"pre a": "pre", "pre '": "preQuote", "pre #": "hash", "pre 0": "zero",
	"preQuote '": "pre", "preQuote any": "preIn", "preIn '": "preOut", "preIn any": "preIn", "preOut '": "preIn",
	"hash #": "hash", "hash 0": "zero", "hash ,": "hashComma", "hashComma #": "hash", "hashComma 0": "zero",
	"zero 0": "zero", "zero ,": "zeroComma", "zeroComma 0": "zero",
	"hash .": "point", "zero .": "point", "point 0": "frac", "point #": "fracHash", "frac 0": "frac", "frac #": "fracHash", "fracHash #": "fracHash",
	"suf a": "suf", "suf '": "sufQuote", "suf ;": "pre",
	"sufQuote '": "suf", "sufQuote any": "sufIn", "sufIn '": "sufOut", "sufIn any": "sufIn", "sufOut '": "sufIn",
}

// asAlso is the spots that go on as others do, too, and those at which a pattern may end.
var asAlso = map[string]string{"preOut": "pre", "sufOut": "suf", "hash": "suf", "zero": "suf", "frac": "suf", "fracHash": "suf", "suf": ""}

// step is where a sign leads; false: nowhere.
func (x state) step(sign string) (state, bool) {
	kind := sign
	switch {
	case strings.Contains("-+%‰¤", sign):
		kind = "a"
	case strings.Contains("123456789@*", sign):
		kind = "5"
	case !strings.Contains("#0,.;'", sign):
		kind = "a"
	}
	next := edges[x.spot+" "+kind]
	if next == "" && sign != quote {
		next = edges[x.spot+" any"]
	}
	also, ok := asAlso[x.spot]
	switch {
	case next == "" && ok && also != "":
		return state{also, x.half, x.commas}.step(sign)
	case next == "", x.commas == 2 && kind == "," && strings.HasSuffix(next, "Comma"), x.half == 1 && x.spot == "suf" && kind == ";":
		return state{}, false
	case strings.HasSuffix(next, "Comma"):
		x.commas++
	case x.spot == "suf" && kind == ";":
		x.half, x.commas = 1, 0
	}
	x.spot = next
	return x, true
}

// ends tells whether a pattern may end here.
func (x state) ends() bool {
	_, ok := asAlso[x.spot]
	return ok && x.spot != "preOut"
}

// run is the place at which the machine stops, and whether a pattern may end there.
func run(s string) (int, bool) {
	x := state{spot: "pre"}
	for at, r := range s {
		next, ok := x.step(string(r))
		if !ok {
			return at, false
		}
		x = next
	}
	return len(s), x.ends()
}

// holdAgainstMachine holds Parse against the machine at one text, and, where it is a pattern, against what expressions tell of it.
func holdAgainstMachine(t *testing.T, s string) (goesOn bool) {
	t.Helper()
	at, ok := run(s)
	if len(s) > api.MaxPattern {
		wantError(t, s, api.ErrLong, 0)
	} else if !ok {
		wantError(t, s, api.ErrForm, at)
	} else {
		wantPattern(t, s, told(s))
	}
	return at == len(s)
}

const (
	bareSign  = `[^#0-9,.;@*\-+%'‰¤]`
	quotedRun = `'(?:[^']|'')+'`
	onePiece  = `[-+%‰]|¤+|''|` + quotedRun + `|` + bareSign
	anyAffix  = `((?:` + onePiece + `)*)`
)

var (
	whole  = regexp.MustCompile(`^` + anyAffix + `([#0,]+)(\.[0#]+)?` + anyAffix + `(?:(;)` + anyAffix + `[#0,.]+` + anyAffix + `)?$`)
	pieces = regexp.MustCompile(onePiece)
)

// told is the pattern that a text is, by expressions.
func told(s string) Pattern {
	m := whole.FindStringSubmatch(s)
	p := Pattern{
		Pos: Sides{piecesOf(m[1]), piecesOf(m[4])}, Neg: Sides{piecesOf(m[6]), piecesOf(m[7])}, Two: m[5] == ";",
		Hash: strings.Count(m[2], "#"), MinInt: strings.Count(m[2], "0"), MinFrac: strings.Count(m[3], "0"), MaxFrac: max(len(m[3]), 1) - 1,
	}
	groups := strings.Split(m[2], ",")
	if len(groups) > 1 {
		p.Group = len(groups[len(groups)-1])
	}
	if len(groups) > 2 && len(groups[1]) != p.Group {
		p.More = len(groups[1])
	}
	return p
}

// piecesOf is the pieces of an affix, by expressions.
func piecesOf(affix string) []Piece {
	var list []Piece
	for _, one := range pieces.FindAllString(affix, -1) {
		x := lit(one)
		switch {
		case strings.HasPrefix(one, "¤"):
			x = cur(utf8.RuneCountInString(one))
		case strings.Contains("-+%‰", one):
			x = map[string]Piece{"-": minus, "+": plus, "%": percent, "‰": permille}[one]
		case one == "''":
			x = lit("'")
		case one[0] == '\'':
			x = lit(strings.ReplaceAll(one[1:len(one)-1], "''", "'"))
		}
		if last := len(list) - 1; last >= 0 && x.Kind == Lit && list[last].Kind == Lit {
			list[last].Text += x.Text
			continue
		}
		list = append(list, x)
	}
	return list
}

func TestEachSignBehindEachBeginning(t *testing.T) {
	signs := []string{"#", "0", ",", ".", ";", "'", "-", "¤", "é", "5"}
	var hold func(s string, depth int)
	hold = func(s string, depth int) {
		if !holdAgainstMachine(t, s) || depth == 0 {
			return
		}
		for _, sign := range signs {
			hold(s+sign, depth-1)
		}
	}
	hold("", 5)
	// Numbers, and quotes, are longer than all that.
	signs = []string{"#", "0", ",", "."}
	hold("", 11)
	hold("0;", 9)
	signs = []string{"'", "a", "0"}
	hold("", 10)
	hold("0", 9)
}

func TestTextsOfAllSorts(t *testing.T) {
	source := rand.New(rand.NewSource(11))
	for range 200000 {
		holdAgainstMachine(t, someText(source))
	}
}

// someText is pieces of patterns side by side, most often in such an order that they are one.
func someText(source *rand.Rand) string {
	affix := func() string {
		var text strings.Builder
		for range source.Intn(4) {
			text.WriteString([]string{"-", "+", "%", "‰", "¤", "¤¤", "a", " ", "é€", "''", "'a'", "'it''s 5'", "'#,##0;¤'", "'''", "'", "x''"}[source.Intn(16)])
		}
		return text.String()
	}
	number := func() string {
		text := []string{"0", "#", "#,##0", "#,##,##0", "0,0,0", "##0", "#,#", "#0,00", "####,##,00", "#,###,##0", "#,#,#,#", "0#"}[source.Intn(12)]
		return text + []string{"", "", ".0", ".#", ".00##", ".", ".#0", ".000"}[source.Intn(8)]
	}
	text := affix() + number() + affix()
	if source.Intn(2) == 0 {
		text += ";" + affix() + number() + affix()
	}
	if source.Intn(8) == 0 {
		at := source.Intn(len(text) + 1)
		for at < len(text) && !utf8.RuneStart(text[at]) {
			at++
		}
		text = text[:at] + []string{"5", "@", ",", ";", "'", "0", "#", ".", "*"}[source.Intn(9)] + text[at:]
	}
	return text
}

func TestAnyBytesEnd(t *testing.T) {
	source := rand.New(rand.NewSource(112))
	const bytes = "#0,.;'-+%a 5@\xc2\xa4\xe2\x80\xb0\xff"
	for range 300000 {
		text := make([]byte, source.Intn(14))
		for i := range text {
			text[i] = bytes[source.Intn(len(bytes))]
		}
		s := string(text)
		if utf8.ValidString(s) {
			holdAgainstMachine(t, s)
			continue
		}
		at := 0
		for at < len(s) && utf8.FullRuneInString(s[at:]) {
			if r, size := utf8.DecodeRuneInString(s[at:]); r != utf8.RuneError {
				at += size
				continue
			}
			break
		}
		wantError(t, s, api.ErrForm, at)
	}
}

// P11.3

func TestSides(t *testing.T) {
	about := func(pre, suf []Piece) Sides { return Sides{Pre: pre, Suf: suf} }
	for s, want := range map[string][2]Sides{
		"0":                  {about(nil, nil), about(row(minus), nil)},
		"0%":                 {about(nil, row(percent)), about(row(minus), row(percent))},
		"-0":                 {about(row(minus), nil), about(row(minus, minus), nil)},
		"¤ 0 a":              {about(row(cur(1), lit(" ")), row(lit(" a"))), about(row(minus, cur(1), lit(" ")), row(lit(" a")))},
		"a0b;c0d":            {about(row(lit("a")), row(lit("b"))), about(row(lit("c")), row(lit("d")))},
		"a0b;0":              {about(row(lit("a")), row(lit("b"))), about(nil, nil)},
		"0;-0K":              {about(nil, nil), about(row(minus), row(lit("K")))},
		"+0;(¤¤0)":           {about(row(plus), nil), about(row(lit("("), cur(2)), row(lit(")")))},
		"‰0;0‰":              {about(row(permille), nil), about(nil, row(permille))},
		"¤#,##0.00;(¤#,##0)": {about(row(cur(1)), nil), about(row(lit("("), cur(1)), row(lit(")")))},
	} {
		p := read(t, s)
		for i, neg := range []bool{false, true} {
			if got := p.Sides(neg); !sameSides(got, want[i]) {
				t.Errorf("%q, below nought: %v: %v, not %v", s, neg, got, want[i])
			}
		}
	}
}

func TestSidesOfAnything(t *testing.T) {
	a, b := Sides{row(lit("a")), row(cur(-1))}, Sides{row(Piece{Kind: 9}), nil}
	for _, two := range []bool{false, true} {
		p := Pattern{Pos: a, Neg: b, Two: two, Hash: -5}
		below := Sides{row(minus, lit("a")), a.Suf}
		if two {
			below = b
		}
		if !sameSides(p.Sides(false), a) || !sameSides(p.Sides(true), below) {
			t.Errorf("%v: %v and %v", two, p.Sides(false), p.Sides(true))
		}
	}
}

func TestAnswersAreNew(t *testing.T) {
	const text = "¤-a0¤b;¤-c0¤d"
	spoil := func(s Sides) {
		for _, list := range [][]Piece{s.Pre, s.Suf} {
			for i := range list {
				list[i] = lit("x")
			}
			_ = append(list, lit("y"))
		}
	}
	for _, s := range []string{text, "¤-a0¤b"} {
		p := read(t, s)
		for _, neg := range []bool{false, true, true, false} {
			got := p.Sides(neg)
			spoil(got)
			if p.String() != s {
				t.Fatalf("sides share memory with their pattern: %s", p)
			}
		}
	}
	p := read(t, text)
	for _, list := range []*[]Piece{&p.Pos.Pre, &p.Pos.Suf, &p.Neg.Pre, &p.Neg.Suf} {
		*list = append(*list, plus)
		(*list)[0] = percent
	}
	if got := p.String(); got != "%-a+0%b+;%-c+0%d+" {
		t.Errorf("two lists of one answer share memory: %s", got)
	}
	if again := read(t, text); again.String() != text {
		t.Errorf("an answer hangs on an earlier one: %s", again)
	}
}

func TestString(t *testing.T) {
	for s, want := range map[string]string{
		// numbers
		"0": "", "#": "", "##00": "", "0.0": "", "#.#": "", "0.00##": "", "#,##0.00": "", "#,#": "", "0,0": "", "#,##,##0.0#": "", "0,0000,00": "", "#,#,###": "", "#,00,000": "",
		"#,###,##0":  "####,##0",
		"0,0,0":      "00,0",
		"#,##0,000":  "###0,000",
		"#,#,#.##":   "##,#.##",
		"####,#,###": "",
		// pieces
		"-0": "", "0-": "", "--0++": "", "%0‰": "", "¤0": "", "0¤¤": "", "¤¤¤ 0": "", "¤-¤¤0": "", "a0b": "", " 0 ": "", "é€0𝄞": "",
		// quotes
		"''0": "", "o''clock 0": "", "''''0''": "",
		"'a'0":                 "a0",
		"'o''clock'0":          "o''clock0",
		"'a'b'c'0' '":          "abc0 ",
		"'#'0":                 "",
		"'#'0 '%'":             "'#'0' %'",
		"'it''s 5' 0":          "'it''s 5 '0",
		"'''#'0":               "",
		"'''#'''0":             "",
		"''#0":                 "",
		"'#'''0":               "",
		"a'#'b0":               "'a#b'0",
		"a'#'''0":              "'a#'''0",
		"''a'#'0":              "'''a#'0",
		"'¤'¤0":                "",
		"-'-'-0":               "",
		"x'-'-y0":              "'x-'-y0",
		"0'0''0'":              "",
		"0'@'":                 "",
		"0'*'":                 "",
		"0';'":                 "",
		"0'.'":                 "",
		"0','":                 "",
		"0'+'":                 "",
		"0'‰'":                 "",
		"0'0'":                 "",
		"0'9'":                 "",
		"0'\"'":                `0"`,
		"'0123456789,.;@*‰¤'0": "",
		// two halves
		"0;0": "", "a0;b0": "", "0;-0K": "", "¤#,##0.00;(¤#,##0.00)": "", "'-'0;-'-'0": "",
		"0;#,##0.00":      "0;0",
		"#,##0.00;0":      "#,##0.00;#,##0.00",
		"#,##,##0;(0)":    "#,##,##0;(#,##,##0)",
		"a#,#,#b;'c'0'd'": "a##,#b;c##,#d",
	} {
		if want == "" {
			want = s
		}
		p := read(t, s)
		if got := p.String(); got != want {
			t.Errorf("%q is written %q, not %q", s, got, want)
		}
		wantPattern(t, want, p)
	}
}

func TestQuotesAboutJustTheMarks(t *testing.T) {
	for r := rune(1); r < 0x3000; r++ {
		if r == '\'' {
			continue
		}
		sign := string(r)
		text, want := "x'"+sign+"''y'0", "x"+sign+"''y0"
		if strings.Contains("#0123456789,.;@*-+%‰¤", sign) {
			want = "'x" + sign + "''y'0"
		}
		if got := read(t, text).String(); got != want {
			t.Errorf("%q is written %q, not %q", text, got, want)
		}
	}
}

func TestWhatIsWrittenIsToldAgain(t *testing.T) {
	source := rand.New(rand.NewSource(113))
	count := 0
	for range 200000 {
		p, e, _ := Parse(someText(source))
		if e != api.OK || len(p.String()) > api.MaxPattern {
			continue
		}
		count++
		wantPattern(t, p.String(), p)
	}
	if count < 20000 {
		t.Errorf("only %d patterns", count)
	}
}

func TestWhatIsWrittenMayBeTooLong(t *testing.T) {
	// Only a first number that is written again, where a shorter one stood, makes a pattern longer.
	long := strings.Repeat("0", 50)
	p := read(t, long+";0")
	if got := p.String(); got != long+";"+long {
		t.Fatalf("%q", got)
	}
	wantError(t, p.String(), api.ErrLong, 0)
	shorter := read(t, long[1:]+";0x")
	wantPattern(t, shorter.String(), shorter)
}

func TestStringOfAnything(t *testing.T) {
	edges := []int{math.MinInt, math.MinInt + 1, -1, 0, 1, 2, 100, math.MaxInt - 1, math.MaxInt}
	for _, a := range edges {
		for _, b := range edges {
			for _, c := range edges {
				for _, p := range []Pattern{
					{Hash: a, MinInt: b, Group: c}, {Hash: 3, MinInt: a, Group: b, More: c}, {MinFrac: a, MaxFrac: b, Hash: c},
					{Pos: Sides{Pre: row(cur(a), Piece{Kind: Kind(b), Text: "\xff'#", N: c})}, Two: true},
				} {
					if len(p.String()) > 1000 {
						t.Fatalf("%+v is written with %d bytes", p, len(p.String()))
					}
				}
			}
		}
	}
	if got := (Pattern{}).String(); got != "" {
		t.Errorf("nothing is written %q", got)
	}
	if got := (Pattern{Two: true, Neg: Sides{Pre: row(Piece{Kind: 6}, Piece{Kind: -1}, plus)}}).String(); got != ";+" {
		t.Errorf("kinds that there aren't: %q", got)
	}
}
