package rule

import (
	"strconv"
	"strings"

	"florin/api"
	"florin/scan"
)

const (
	operands  = "nivwftce"
	maxDigits = 9 // all numbers of so many digits are below MaxSmall
)

// reader goes through a text of rules, from the left, so that the first error that it meets is the first one there is.
type reader struct {
	scan.Text
	found [Other + 1]bool // the categories that have a rule
	rels  int             // how many relations there were
}

// rules reads all of the text.
func (r *reader) rules() Rules {
	var list Rules
	for !r.Ended() {
		list = append(list, r.rule())
		if !r.Ended() {
			r.Wants(";")
		}
	}
	return list
}

// rule reads a category's rule; that of other has no condition.
func (r *reader) rule() Rule {
	x := Rule{Cat: r.category()}
	r.Wants(":")
	if x.Cat != Other {
		x.Any = r.condition()
	}
	x.Sample = r.samples()
	return x
}

// category reads the word of a category that has no rule yet.
func (r *reader) category() Cat {
	word, at := r.Run(isLetter)
	c, ok := CatOf(word)
	if !ok {
		scan.GiveUp(api.ErrForm, at)
	}
	if r.found[c] {
		scan.GiveUp(api.ErrCat, at)
	}
	r.found[c] = true
	return c
}

// condition reads alls with or between them.
func (r *reader) condition() [][]Rel {
	alls := [][]Rel{r.all()}
	for r.takesWord("or") {
		alls = append(alls, r.all())
	}
	return alls
}

// all reads relations with and between them.
func (r *reader) all() []Rel {
	list := []Rel{r.relation()}
	for r.takesWord("and") {
		list = append(list, r.relation())
	}
	return list
}

// relation reads an operand, its divisor, if there is one, and its ranges.
func (r *reader) relation() Rel {
	x := Rel{Op: r.operand()}
	if r.Takes("%") {
		x.Mod = r.numberFrom(1)
	}
	x.Not = r.Takes("!=")
	if !x.Not {
		r.Wants("=")
	}
	x.Ranges = r.ranges()
	return x
}

// operand reads an operand's letter, and counts the relation that it begins.
func (r *reader) operand() byte {
	word, at := r.Run(isLetter)
	if len(word) != 1 || !strings.Contains(operands, word) {
		scan.GiveUp(api.ErrForm, at)
	}
	if r.rels == api.MaxRel {
		scan.GiveUp(api.ErrMany, at)
	}
	r.rels++
	return word[0]
}

// ranges reads ranges with commas between them.
func (r *reader) ranges() []Range {
	list := []Range{r.oneRange()}
	for r.Takes(",") {
		list = append(list, r.oneRange())
	}
	return list
}

// oneRange reads a number, or two, of which the second one isn't less.
func (r *reader) oneRange() Range {
	lo := r.numberFrom(0)
	if !r.Takes("..") {
		return Range{Lo: lo, Hi: lo}
	}
	return Range{Lo: lo, Hi: r.numberFrom(lo)}
}

// numberFrom reads a number that isn't below another one.
func (r *reader) numberFrom(least int) int {
	digits, at := r.Run(scan.IsDigit)
	if digits == "" || len(digits) > 1 && digits[0] == '0' {
		scan.GiveUp(api.ErrForm, at)
	}
	if len(digits) > maxDigits {
		scan.GiveUp(api.ErrLong, at)
	}
	n, _ := strconv.Atoi(digits) // so few digits always are an int
	if n < least {
		scan.GiveUp(api.ErrArg, at)
	}
	return n
}

// samples reads samples, if there are any, as they stand.
func (r *reader) samples() string {
	if !strings.HasPrefix(r.Ahead(isSample), "@") {
		return ""
	}
	text, _ := r.Run(isSample)
	return strings.TrimRight(text, " ")
}

// takesWord goes on behind a word, if it stands here; a longer word that only begins so is another one.
func (r *reader) takesWord(word string) bool {
	return r.Ahead(isLetter) == word && r.Takes(word)
}

func isLetter(b byte) bool { return b >= 'a' && b <= 'z' }

func isSample(b byte) bool { return b != ';' }
