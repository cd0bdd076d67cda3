package locale

import (
	"slices"

	"florin/brace"
	"florin/table"
)

// copiedTable is the same table in memory of its own, so that whoever handed it in may go on turning it.
func copiedTable(t table.Table) table.Table {
	t.Short = each(t.Short, copiedRow)
	t.Long = each(t.Long, copiedRow)
	t.MoneyShort = each(t.MoneyShort, copiedRow)
	t.Currencies = each(t.Currencies, copiedCurrency)
	t.Units = each(t.Units, copiedUnit)
	t.MoneyUnit = slices.Clone(t.MoneyUnit)
	return t
}

func copiedRow(x table.Row) table.Row {
	x.Texts = slices.Clone(x.Texts)
	return x
}

func copiedCurrency(c table.Currency) table.Currency {
	c.Names = slices.Clone(c.Names)
	return c
}

func copiedUnit(u table.Unit) table.Unit {
	u.Texts = slices.Clone(u.Texts)
	return u
}

func copiedBrace(b brace.Brace) brace.Brace {
	return brace.Brace{Texts: slices.Clone(b.Texts), Places: slices.Clone(b.Places)}
}
