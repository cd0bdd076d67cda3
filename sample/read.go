package sample

import (
	"florin/api"
	"florin/operand"
	"florin/scan"
)

// reader goes through a text of samples.
type reader struct{ scan.Text }

// sets reads all of the text.
func (r *reader) sets() []Set {
	var list []Set
	for !r.Ended() {
		list = append(list, r.set())
	}
	return list
}

// set reads a kind and its items. It ends at more, behind which only the next kind goes on.
func (r *reader) set() Set {
	x := Set{Decimal: r.Takes("@decimal")}
	if !x.Decimal {
		r.Wants("@integer")
	}
	x.Items = append(x.Items, r.item(x.Decimal))
	for !x.More && r.Takes(",") {
		x.More = r.Takes("…") || r.Takes("...")
		if !x.More {
			x.Items = append(x.Items, r.item(x.Decimal))
		}
	}
	return x
}

// item reads a number, or two that go together.
func (r *reader) item(decimal bool) Item {
	var x Item
	x.Lo, _ = r.number(decimal)
	if !r.Takes("~") {
		return x
	}
	hi, at := r.number(decimal)
	x.Hi = hi
	if _, e := x.steps(); e != api.OK {
		scan.GiveUp(e, at)
	}
	return x
}

// number reads a number, and tells where it begins.
func (r *reader) number(decimal bool) (string, int) {
	text, at := r.Run(inNumber)
	o, e := operand.Read(text)
	if e != api.OK {
		scan.GiveUp(e, at)
	}
	if !decimal && o.V() > 0 {
		scan.GiveUp(api.ErrForm, at)
	}
	return text, at
}

// inNumber tells whether a byte may be part of a number.
func inNumber(b byte) bool {
	return scan.IsDigit(b) || b == '.' || b == 'c' || b == 'e'
}
