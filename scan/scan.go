// Package scan goes through texts from the left, for the layers that read grammars.
//
// Readers may give up by panic, so that the first error that they meet, which is the first one there is, ends all of them at once; the face of the layer that reads catches it.
package scan

import (
	"strings"

	"florin/api"
)

// Fault is what a reader gives up with: an error, and where it is.
type Fault struct {
	Err api.Errno
	At  int
}

// GiveUp ends a reading at once.
func GiveUp(e api.Errno, at int) { panic(Fault{Err: e, At: at}) }

// Text is a text, and how far it is read. Whatever is asked of it, blanks are skipped first, unless it is a tight one.
type Text struct {
	all   string
	at    int
	tight bool
}

// Of is a text of which nothing is read yet.
func Of(s string) Text { return Text{all: s} }

// Tight is a text of which nothing is read yet, and in which blanks are signs as others are.
func Tight(s string) Text { return Text{all: s, tight: true} }

// Ended tells whether nothing is left.
func (t *Text) Ended() bool {
	t.skipBlanks()
	return t.at == len(t.all)
}

// Rest is what is left, and where it begins.
func (t *Text) Rest() (string, int) {
	t.skipBlanks()
	return t.all[t.at:], t.at
}

// Takes goes on behind a sign, if it stands here.
func (t *Text) Takes(sign string) bool {
	t.skipBlanks()
	if !strings.HasPrefix(t.all[t.at:], sign) {
		return false
	}
	t.at += len(sign)
	return true
}

// Wants goes on behind a sign that must stand here.
func (t *Text) Wants(sign string) {
	if !t.Takes(sign) {
		GiveUp(api.ErrForm, t.at)
	}
}

// Ahead is as many bytes of a kind as stand here side by side; it doesn't go on behind them.
func (t *Text) Ahead(isKind func(byte) bool) string {
	t.skipBlanks()
	end := t.at
	for end < len(t.all) && isKind(t.all[end]) {
		end++
	}
	return t.all[t.at:end]
}

// Run goes on behind as many bytes of a kind as stand here side by side, and tells them, and where they begin.
func (t *Text) Run(isKind func(byte) bool) (string, int) {
	run := t.Ahead(isKind)
	start := t.at
	t.at += len(run)
	return run, start
}

func (t *Text) skipBlanks() {
	for !t.tight && t.at < len(t.all) && t.all[t.at] == ' ' {
		t.at++
	}
}

// IsDigit tells whether a byte is one of 0 to 9.
func IsDigit(b byte) bool { return b >= '0' && b <= '9' }
