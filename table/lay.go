package table

import "florin/wire"

func layTable(w *wire.Writer, t Table) {
	for _, text := range t.texts() {
		w.Text(*text)
	}
	w.Num(t.MinGroup)
	layRows(w, t.Short)
	layRows(w, t.Long)
	layRows(w, t.MoneyShort)
	layList(w, t.Currencies, func(c Currency) {
		w.Text(c.Code).Text(c.Symbol).Text(c.Narrow)
		layTexts(w, c.Names)
		w.Num(c.Digits).Num(c.Inc).Num(c.CashDigits).Num(c.CashInc)
	})
	layList(w, t.Units, func(u Unit) {
		w.Text(u.Name)
		layTexts(w, u.Texts)
	})
	layTexts(w, t.MoneyUnit)
}

func layRows(w *wire.Writer, rows []Row) {
	layList(w, rows, func(row Row) {
		w.Num(row.Mag)
		layTexts(w, row.Texts)
	})
}

func layTexts(w *wire.Writer, texts []Text) {
	layList(w, texts, func(text Text) { w.Num(int(text.Cat)).Text(text.Text) })
}

// layList lays how many there are, and each of them.
func layList[T any](w *wire.Writer, list []T, layOne func(T)) {
	w.Num(len(list))
	for _, one := range list {
		layOne(one)
	}
}
