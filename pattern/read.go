package pattern

import (
	"strings"
	"unicode/utf8"

	"florin/api"
	"florin/scan"
)

// maxCommas is how many commas places have at most.
const maxCommas = 2

// reader goes through a text of a pattern, from the left. It passes nothing but what the grammar has, so that wherever it gives up nothing goes on.
type reader struct{ scan.Text }

// wantSigns gives up at the first byte that begins no sign. It goes ahead of the reader: such a byte counts before all that is wrong to its left.
func wantSigns(s string) {
	for at := 0; at < len(s); {
		r, size := utf8.DecodeRuneInString(s[at:])
		if r == utf8.RuneError && size == 1 {
			scan.GiveUp(api.ErrForm, at)
		}
		at += size
	}
}

// pattern reads all of the text.
func (r *reader) pattern() Pattern {
	p := r.half()
	if r.Takes(";") {
		p.Two = true
		p.Neg = r.half().Pos
	}
	if !r.Ended() {
		r.giveUp()
	}
	return p
}

// half reads a number, and what stands about it, as a pattern without a second half.
func (r *reader) half() Pattern {
	pre := r.affix()
	p := r.number()
	p.Pos = Sides{Pre: pre, Suf: r.affix()}
	return p
}

// affix reads as many pieces as stand side by side.
func (r *reader) affix() []Piece {
	var list []Piece
	for {
		x, ok := r.piece()
		if !ok {
			return list
		}
		list = append(list, x)
	}
}

// piece reads a piece; false: here is none.
func (r *reader) piece() (Piece, bool) {
	for k := Minus; k <= Permille; k++ {
		if r.Takes(signs[k]) {
			return Piece{Kind: k}, true
		}
	}
	if n := r.count(signs[Cur]); n > 0 {
		return Piece{Kind: Cur, N: n}, true
	}
	text := r.literals()
	return Piece{Kind: Lit, Text: text}, text != ""
}

// literals reads as many literals as stand side by side, and tells their signs.
func (r *reader) literals() string {
	var text strings.Builder
	for {
		one := r.literal()
		if one == "" {
			return text.String()
		}
		text.WriteString(one)
	}
}

// literal reads a literal, and tells its signs; none: here is none.
func (r *reader) literal() string {
	if r.Takes(quote + quote) {
		return quote
	}
	if r.Takes(quote) {
		return r.quoted()
	}
	if sign := r.next(); !strings.Contains(marks, sign) && r.Takes(sign) {
		return sign
	}
	return ""
}

// quoted reads what stands behind an opening quote, up to the closing one, and tells its signs.
func (r *reader) quoted() string {
	var text strings.Builder
	for {
		if r.Takes(quote + quote) {
			text.WriteString(quote)
			continue
		}
		if r.Takes(quote) {
			return text.String()
		}
		if r.Ended() {
			r.giveUp()
		}
		sign := r.next()
		text.WriteString(sign)
		r.Wants(sign)
	}
}

// number reads a number.
func (r *reader) number() Pattern {
	p := r.places()
	if r.Takes(".") {
		p.MinFrac = r.count("0")
		p.MaxFrac = p.MinFrac + r.count("#")
		if p.MaxFrac == 0 {
			r.giveUp()
		}
	}
	return p
}

// places reads the places ahead of the point.
func (r *reader) places() Pattern {
	var p Pattern
	r.group(&p)
	for range maxCommas {
		if !r.Takes(",") {
			break
		}
		p.More = p.Group
		p.Group = r.group(&p)
	}
	if p.More == p.Group {
		p.More = 0
	}
	return p
}

// group reads as many places as stand side by side, one at least, counts them to those of a pattern, and tells how many they are.
func (r *reader) group(p *Pattern) int {
	hash := 0
	if p.MinInt == 0 { // no # stands behind a 0, not even with a comma between
		hash = r.count("#")
	}
	zeros := r.count("0")
	if hash+zeros == 0 {
		r.giveUp()
	}
	p.Hash += hash
	p.MinInt += zeros
	return hash + zeros
}

// count goes on behind a sign as often as it stands here side by side, and tells how often.
func (r *reader) count(sign string) int {
	n := 0
	for r.Takes(sign) {
		n++
	}
	return n
}

// next is the sign that stands here; none at the end.
func (r *reader) next() string {
	rest, _ := r.Rest()
	_, size := utf8.DecodeRuneInString(rest)
	return rest[:size]
}

// giveUp ends the reading here.
func (r *reader) giveUp() {
	_, at := r.Rest()
	scan.GiveUp(api.ErrForm, at)
}
