package class

import (
	"strings"
	"unicode/utf8"

	"florin/scan"
)

const (
	marks     = `[]-^\ ` // these are numbers only behind a \
	hexDigits = "0123456789abcdef"
	maxHex    = 6 // digits of an escape
)

// reader goes through a text of a class; where the grammar has nothing of what stands there, it stays.
type reader struct{ scan.Text }

// class reads all of the text.
func (r *reader) class() (Class, bool) {
	if !r.Takes("[") {
		return nil, false
	}
	others := r.Takes("^")
	var list []Range
	for !r.Takes("]") {
		x, ok := r.span()
		if !ok {
			return nil, false
		}
		list = append(list, x)
	}
	c := Made(list...)
	if others {
		c = c.Not()
	}
	return c, r.Ended()
}

// span reads a number, or two, of which the second one isn't less.
func (r *reader) span() (Range, bool) {
	lo, ok := r.numberFrom(0)
	if !ok || !r.Takes("-") {
		return Range{Lo: lo, Hi: lo}, ok
	}
	hi, ok := r.numberFrom(lo)
	return Range{Lo: lo, Hi: hi}, ok
}

// numberFrom reads a number that isn't below another one.
func (r *reader) numberFrom(least rune) (rune, bool) {
	rest, _ := r.Rest()
	n, size := number(rest)
	if size == 0 || n < least {
		return 0, false
	}
	return n, r.Takes(rest[:size])
}

// number is the number with which a text begins, and how many bytes it has; none: the text begins with no number.
func number(s string) (rune, int) {
	if strings.HasPrefix(s, `\`) {
		return escape(s[1:])
	}
	r, size := utf8.DecodeRuneInString(s)
	if r == utf8.RuneError && size <= 1 || strings.ContainsRune(marks, r) {
		return 0, 0
	}
	return r, size
}

// escape is the number with which a text goes on behind a \, and how many bytes it has, the \ among them; none: it is no escape.
func escape(s string) (rune, int) {
	if strings.HasPrefix(s, "u{") {
		return coded(s[2:])
	}
	if s == "" || strings.IndexByte(marks, s[0]) < 0 {
		return 0, 0
	}
	return rune(s[0]), 2
}

// coded is the number with which a text goes on behind \u{, and how many bytes it has, those ahead of it among them; none: it is no escape.
func coded(s string) (rune, int) {
	n := rune(0)
	size := 0
	for size < min(len(s), maxHex) && strings.IndexByte(hexDigits, s[size]) >= 0 {
		n = n*16 + rune(strings.IndexByte(hexDigits, s[size]))
		size++
	}
	if size == 0 || n > Top || !strings.HasPrefix(s[size:], "}") {
		return 0, 0
	}
	return n, len(`\u{`) + size + 1
}
