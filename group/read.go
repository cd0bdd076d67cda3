package group

import (
	"strings"

	"florin/locale"
	"florin/show"
)

// Read is the digits that a text is, ahead of the point and behind it; false: it is something else.
func Read(l *locale.Locale, s string) (show.Vis, bool) {
	ahead, behind, pointed := strings.Cut(s, l.Table.Point)
	whole, right := readGroups(l, ahead)
	if !pointed {
		return show.Vis{Int: whole}, right
	}
	frac, fracRight := readDigits(l, behind)
	if !fracRight || !right && ahead != "" {
		return show.Vis{}, false
	}
	return show.Vis{Int: whole, Frac: frac}, true
}

// readGroups is the digits of groups with a comma between each two; false: the text is something else.
func readGroups(l *locale.Locale, s string) (string, bool) {
	var all strings.Builder
	for group := range strings.SplitSeq(s, l.Table.Comma) {
		digits, ok := readDigits(l, group)
		if !ok {
			return "", false
		}
		all.WriteString(digits)
	}
	return all.String(), true
}

// readDigits is the digits whose signs are all of a text; false: it has something else, or nothing.
func readDigits(l *locale.Locale, s string) (string, bool) {
	digits, size := l.Table.Digits.Read(s)
	if size == 0 || size < len(s) {
		return "", false
	}
	return digits, true
}
