package table

import (
	"florin/api"
	"florin/rule"
	"florin/wire"
)

// readTable is the table that a reader tells, in the order in which layTable lays it; where the reader tells an error it isn't whole.
func readTable(r *wire.Reader) Table {
	var t Table
	for _, text := range t.texts() {
		*text = r.Text()
	}
	t.MinGroup = r.Num()
	t.Short = readRows(r)
	t.Long = readRows(r)
	t.MoneyShort = readRows(r)
	t.Currencies = readList(r, func() Currency { return readCurrency(r) })
	t.Units = readList(r, func() Unit {
		name := r.Text()
		return Unit{Name: name, Texts: readTexts(r)}
	})
	t.MoneyUnit = readTexts(r)
	return t
}

func readRows(r *wire.Reader) []Row {
	return readList(r, func() Row {
		mag := r.Num()
		return Row{Mag: mag, Texts: readTexts(r)}
	})
}

func readCurrency(r *wire.Reader) Currency {
	var c Currency
	c.Code, c.Symbol, c.Narrow = r.Text(), r.Text(), r.Text()
	c.Names = readTexts(r)
	c.Digits, c.Inc = r.Num(), r.Num()
	c.CashDigits, c.CashInc = r.Num(), r.Num()
	return c
}

func readTexts(r *wire.Reader) []Text {
	return readList(r, func() Text {
		cat := rule.Cat(r.Num())
		return Text{Cat: cat, Text: r.Text()}
	})
}

// readList reads how many there are, and each of them. No memory is laid out by the number alone, which may be more than the bytes behind it can hold.
func readList[T any](r *wire.Reader, readOne func() T) []T {
	var list []T
	for range r.Count(api.MaxBytes) {
		one := readOne()
		if !r.OK() {
			return nil
		}
		list = append(list, one)
	}
	return list
}
