package locale

import (
	"florin/brace"
	"florin/class"
	"florin/cpat"
	"florin/pattern"
	"florin/rule"
	"florin/table"
)

// read is a table at hand. The table is well formed, so that none of its texts is read with an error.
func read(t table.Table) *Locale {
	rules, _, _ := rule.Parse(t.Rules)
	l := &Locale{
		Table:      copiedTable(t),
		Decimal:    readPattern(t.Decimal),
		Per:        readPattern(t.Per),
		Money:      readPattern(t.Money),
		Account:    readPattern(t.Account),
		Rules:      rules,
		Short:      each(t.Short, readRow),
		Long:       each(t.Long, readRow),
		MoneyShort: each(t.MoneyShort, readRow),
		Before:     readSpace(t.Before),
		After:      readSpace(t.After),
		units:      map[string]*ByCat[brace.Brace]{},
		names:      map[string]*ByCat[string]{},
		moneyUnit:  *byCat(t.MoneyUnit, readMoneyUnit),
	}
	for _, u := range t.Units {
		l.units[u.Name] = byCat(u.Texts, readUnit)
	}
	for _, c := range t.Currencies {
		if len(c.Names) > 0 {
			l.names[c.Code] = byCat(c.Names, readName)
		}
	}
	return l
}

// readRow reads a row; all of its patterns part numbers as its last one, that of other, does.
func readRow(x table.Row) Row {
	pats := byCat(x.Texts, readCompact)
	last := pats.Get(rule.Other)
	return Row{Mag: x.Mag, Shift: last.Shift(x.Mag), Noop: last.Noop, Pats: pats}
}

func readSpace(x table.Spacing) Space {
	return Space{Cur: readClass(x.Cur), Num: readClass(x.Num), Insert: x.Insert}
}

func readPattern(s string) pattern.Pattern {
	p, _, _ := pattern.Parse(s)
	return p
}

func readCompact(s string) cpat.Compact {
	c, _, _ := cpat.Parse(s)
	return c
}

func readClass(s string) class.Class {
	c, _, _ := class.Parse(s)
	return c
}

func readUnit(s string) brace.Brace {
	b, _, _ := brace.Parse(s, 1)
	return b
}

func readMoneyUnit(s string) brace.Brace {
	b, _, _ := brace.Parse(s, 2)
	return b
}

// readName is a name as it stands.
func readName(s string) string { return s }

// byCat is what texts are read as, each for its category.
func byCat[V any](texts []table.Text, readOne func(string) V) *ByCat[V] {
	b := &ByCat[V]{}
	for _, x := range texts {
		b.Put(x.Cat, readOne(x.Text))
	}
	return b
}

// each is what is made of each thing of a list, in its order.
func each[A, B any](list []A, made func(A) B) []B {
	out := make([]B, len(list))
	for i, x := range list {
		out[i] = made(x)
	}
	return out
}
