package valid

import (
	"florin/api"
	"florin/cpat"
	"florin/table"
)

// areRows tells whether rows are well formed, with such pieces about their numbers.
func areRows(list []table.Row, want marks) bool {
	return len(list) <= api.MaxRows &&
		all(list, func(x table.Row) bool { return isRow(x, want) }) &&
		allPairs(list, func(a, b table.Row) bool { return a.Mag < b.Mag && shift(a) <= shift(b) })
}

// isRow tells whether a row is well formed by itself.
func isRow(x table.Row, want marks) bool {
	first := firstOf(x)
	return within(x.Mag, 0, MaxMag) && shift(x) >= 0 &&
		areByCat(x.Texts, func(s string) bool { return isCompact(s, first, want) })
}

// isCompact tells whether a text is a compact pattern that parts numbers as another one of its row does.
func isCompact(s string, first cpat.Compact, want marks) bool {
	c, e, _ := cpat.Parse(s)
	return e == api.OK && len(s) <= api.MaxText &&
		c.Zeros == first.Zeros && c.Noop == first.Noop &&
		(c.Noop || hasMarks(c.Pattern, want))
}

// firstOf is a row's first compact pattern, with which all others of it go together; of no texts, and of one that can't be read, nothing.
func firstOf(x table.Row) cpat.Compact {
	if len(x.Texts) == 0 {
		return cpat.Compact{}
	}
	c, _, _ := cpat.Parse(x.Texts[0].Text)
	return c
}

// shift is by which power of ten numbers are parted by a row.
func shift(x table.Row) int { return firstOf(x).Shift(x.Mag) }

func areCurrencies(list []table.Currency) bool {
	return len(list) <= api.MaxCur && all(list, isCurrency) &&
		allPairs(list, func(a, b table.Currency) bool { return a.Code < b.Code })
}

// isCurrency tells whether a currency is well formed by itself.
func isCurrency(c table.Currency) bool {
	return isCode(c.Code) && isEmptyOrName(c.Symbol) && isEmptyOrName(c.Narrow) &&
		(len(c.Names) == 0 || areByCat(c.Names, isName)) &&
		within(c.Digits, 0, MaxPlaces) && within(c.Inc, 0, api.MaxSmall) &&
		within(c.CashDigits, 0, MaxPlaces) && within(c.CashInc, 0, api.MaxSmall)
}

func areUnits(list []table.Unit) bool {
	return len(list) <= api.MaxUnits && all(list, isUnit) &&
		allPairs(list, func(a, b table.Unit) bool { return a.Name < b.Name })
}

// isUnit tells whether a unit is well formed by itself.
func isUnit(u table.Unit) bool { return isName(u.Name) && areByCat(u.Texts, hasPlaces(1)) }

// isSpacing tells whether what is put between a currency's sign and a number is well formed.
func isSpacing(x table.Spacing) bool {
	return isClass(x.Cur) && isClass(x.Num) && isEmptyOrName(x.Insert)
}
