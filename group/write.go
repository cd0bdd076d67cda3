package group

import (
	"slices"

	"florin/locale"
	"florin/show"
)

// Write is digits that are shown, in groups.
func Write(l *locale.Locale, v show.Vis, last, more int) []Part {
	return append(whole(l, v.Int, last, more), behind(l, v.Frac)...)
}

// whole is the parts of the digits ahead of the point: none, if there are none.
func whole(l *locale.Locale, digits string, last, more int) []Part {
	signs := l.Table.Digits.Write(digits)
	if signs == "" {
		return nil
	}
	// Taken away rather than put together: a sum with a great last might wrap round.
	if last < 1 || len(digits)-l.Table.MinGroup < last {
		return []Part{{Kind: Int, Text: signs}}
	}
	var list []Part
	for i, group := range groups(digits, last, more) {
		if i > 0 {
			list = append(list, Part{Kind: Comma, Text: l.Table.Comma})
		}
		list = append(list, Part{Kind: Int, Text: l.Table.Digits.Write(group)})
	}
	return list
}

// behind is the parts of the digits behind the point, and the point: none, if there are no digits.
func behind(l *locale.Locale, digits string) []Part {
	signs := l.Table.Digits.Write(digits)
	if signs == "" {
		return nil
	}
	return []Part{{Kind: Point, Text: l.Table.Point}, {Kind: Frac, Text: signs}}
}

// groups is digits in groups, from the first one on: the last one has so many digits (there are at least as many), those ahead of it more.
func groups(digits string, last, more int) []string {
	if more < 1 {
		more = last
	}
	at := len(digits) - last
	list := []string{digits[at:]}
	for at > 0 {
		from := max(at-more, 0)
		list = append(list, digits[from:at])
		at = from
	}
	slices.Reverse(list)
	return list
}
