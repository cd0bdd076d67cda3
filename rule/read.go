package rule

import (
	"strconv"
	"strings"

	"florin/api"
)

const (
	operands  = "nivwftce"
	maxDigits = 9 // all numbers of so many digits are below MaxSmall
)

// fault is what the reader gives up with: an error, and where it is.
type fault struct {
	e  api.Errno
	at int
}

// reader goes through a text of rules, from the left, so that the first error that it meets is the first one there is.
type reader struct {
	text  string
	at    int
	found [Other + 1]bool // the categories that have a rule
	rels  int             // how many relations there were
}

// rules reads all of the text.
func (r *reader) rules() Rules {
	var list Rules
	for !r.ended() {
		list = append(list, r.rule())
		if !r.takes(";") && !r.ended() {
			giveUp(api.ErrForm, r.at)
		}
	}
	return list
}

// rule reads a category's rule; that of other has no condition.
func (r *reader) rule() Rule {
	x := Rule{Cat: r.category()}
	r.wants(":")
	if x.Cat != Other {
		x.Any = r.condition()
	}
	x.Sample = r.samples()
	return x
}

// category reads the word of a category that has no rule yet.
func (r *reader) category() Cat {
	word, at := r.run(isLetter)
	c, ok := CatOf(word)
	if !ok {
		giveUp(api.ErrForm, at)
	}
	if r.found[c] {
		giveUp(api.ErrCat, at)
	}
	r.found[c] = true
	return c
}

// condition reads alls with or between them.
func (r *reader) condition() [][]Rel {
	alls := [][]Rel{r.all()}
	for r.takesWord("or") {
		alls = append(alls, r.all())
	}
	return alls
}

// all reads relations with and between them.
func (r *reader) all() []Rel {
	list := []Rel{r.relation()}
	for r.takesWord("and") {
		list = append(list, r.relation())
	}
	return list
}

// relation reads an operand, its divisor, if there is one, and its ranges.
func (r *reader) relation() Rel {
	x := Rel{Op: r.operand()}
	if r.takes("%") {
		x.Mod = r.numberFrom(1)
	}
	x.Not = r.takes("!=")
	if !x.Not {
		r.wants("=")
	}
	x.Ranges = r.ranges()
	return x
}

// operand reads an operand's letter, and counts the relation that it begins.
func (r *reader) operand() byte {
	word, at := r.run(isLetter)
	if len(word) != 1 || !strings.Contains(operands, word) {
		giveUp(api.ErrForm, at)
	}
	if r.rels == api.MaxRel {
		giveUp(api.ErrMany, at)
	}
	r.rels++
	return word[0]
}

// ranges reads ranges with commas between them.
func (r *reader) ranges() []Range {
	list := []Range{r.oneRange()}
	for r.takes(",") {
		list = append(list, r.oneRange())
	}
	return list
}

// oneRange reads a number, or two, of which the second one isn't less.
func (r *reader) oneRange() Range {
	lo := r.numberFrom(0)
	if !r.takes("..") {
		return Range{Lo: lo, Hi: lo}
	}
	return Range{Lo: lo, Hi: r.numberFrom(lo)}
}

// numberFrom reads a number that isn't below another one.
func (r *reader) numberFrom(least int) int {
	digits, at := r.run(isDigit)
	if digits == "" || len(digits) > 1 && digits[0] == '0' {
		giveUp(api.ErrForm, at)
	}
	if len(digits) > maxDigits {
		giveUp(api.ErrLong, at)
	}
	n, _ := strconv.Atoi(digits) // so few digits always are an int
	if n < least {
		giveUp(api.ErrArg, at)
	}
	return n
}

// samples reads samples, if there are any, as they stand.
func (r *reader) samples() string {
	r.skipBlanks()
	rest := r.text[r.at:]
	if !strings.HasPrefix(rest, "@") {
		return ""
	}
	text, _, _ := strings.Cut(rest, ";")
	r.at += len(text)
	return strings.TrimRight(text, " ")
}

// wants goes on behind a sign that must stand here.
func (r *reader) wants(sign string) {
	if !r.takes(sign) {
		giveUp(api.ErrForm, r.at)
	}
}

// takes goes on behind a sign, if it stands here.
func (r *reader) takes(sign string) bool {
	r.skipBlanks()
	if !strings.HasPrefix(r.text[r.at:], sign) {
		return false
	}
	r.at += len(sign)
	return true
}

// takesWord goes on behind a word, if it stands here; a longer word that only begins so is another one.
func (r *reader) takesWord(want string) bool {
	word, at := r.run(isLetter)
	if word != want {
		r.at = at
		return false
	}
	return true
}

// run reads as many bytes of a kind as stand side by side, and tells where they begin.
func (r *reader) run(isKind func(byte) bool) (string, int) {
	r.skipBlanks()
	start := r.at
	for r.at < len(r.text) && isKind(r.text[r.at]) {
		r.at++
	}
	return r.text[start:r.at], start
}

// ended tells whether nothing but blanks is left.
func (r *reader) ended() bool {
	r.skipBlanks()
	return r.at == len(r.text)
}

func (r *reader) skipBlanks() {
	for r.at < len(r.text) && r.text[r.at] == ' ' {
		r.at++
	}
}

// giveUp ends the reading at once; Parse catches it.
func giveUp(e api.Errno, at int) { panic(fault{e: e, at: at}) }

func isLetter(b byte) bool { return b >= 'a' && b <= 'z' }

func isDigit(b byte) bool { return b >= '0' && b <= '9' }
