package valid

import (
	"slices"

	"florin/api"
	"florin/brace"
	"florin/class"
	"florin/glyph"
	"florin/pattern"
	"florin/rule"
	"florin/table"
)

// codeSize is how many letters a currency's code has.
const codeSize = 3

// marks is how many pieces of some kinds there are.
type marks struct{ percents, permilles, curs int }

// isName tells whether a text is a name.
func isName(s string) bool { return s != "" && len(s) <= api.MaxText && glyph.Right(s) }

func isEmptyOrName(s string) bool { return s == "" || isName(s) }

// isSeparator tells whether a text may stand among a table's digits, and isn't taken for one.
func isSeparator(t table.Table, s string) bool {
	return glyph.One(s) && !slices.Contains(t.Digits[:], s)
}

// isPattern tells whether a text is a pattern with such pieces above nought, and below it.
func isPattern(s string, want marks) bool {
	p, e, _ := pattern.Parse(s)
	return e == api.OK && hasMarks(p, want)
}

// hasMarks tells whether there are just such pieces about numbers above nought, and about those below it.
func hasMarks(p pattern.Pattern, want marks) bool {
	return all([]bool{false, true}, func(neg bool) bool { return marksOf(p.Sides(neg)) == want })
}

// marksOf counts the pieces on both sides of a number.
func marksOf(s pattern.Sides) marks {
	var found marks
	for _, x := range slices.Concat(s.Pre, s.Suf) {
		switch x.Kind {
		case pattern.Percent:
			found.percents++
		case pattern.Permille:
			found.permilles++
		case pattern.Cur:
			found.curs++
		}
	}
	return found
}

func areRules(s string) bool {
	_, e, _ := rule.Parse(s)
	return e == api.OK
}

// isCode tells whether a text may be a currency's code.
func isCode(s string) bool {
	return len(s) == codeSize && all([]byte(s), func(b byte) bool { return b >= 'A' && b <= 'Z' })
}

// hasPlaces is the question whether a text is one with so many places in it.
func hasPlaces(n int) func(string) bool {
	return func(s string) bool {
		_, e, _ := brace.Parse(s, n)
		return e == api.OK && len(s) <= api.MaxText
	}
}

// isClass tells whether a text is a class, of no more ranges than there may be.
func isClass(s string) bool {
	c, e, _ := class.Parse(s)
	return e == api.OK && len(c) <= api.MaxRanges
}

// areByCat tells whether there are texts by category, of each of which something is true.
func areByCat(list []table.Text, is func(string) bool) bool {
	last := len(list) - 1
	return last >= 0 && list[0].Cat >= rule.Zero && list[last].Cat == rule.Other &&
		allPairs(list, func(a, b table.Text) bool { return a.Cat < b.Cat }) &&
		all(list, func(x table.Text) bool { return is(x.Text) })
}
