package scan

import (
	"testing"

	"florin/api"
)

// gaveUp is what a reading gives up with; false: it doesn't.
func gaveUp(read func()) (f Fault, ok bool) {
	defer func() { f, ok = recover().(Fault) }()
	read()
	return Fault{}, false
}

func TestGiveUp(t *testing.T) {
	f, ok := gaveUp(func() { GiveUp(api.ErrLong, 7) })
	if !ok || f != (Fault{Err: api.ErrLong, At: 7}) {
		t.Errorf("%v, %v", f, ok)
	}
}

func TestBlanksAreSkippedFirst(t *testing.T) {
	for _, s := range []string{"12~ab", " 12~ab ", "   12  ~   ab   "} {
		text := Of(s)
		if text.Ended() || text.Takes("~") || text.Ahead(IsDigit) != "12" {
			t.Fatalf("%q begins wrongly", s)
		}
		run, _ := text.Run(IsDigit)
		if run != "12" || !text.Takes("~") || text.Takes("ba") {
			t.Fatalf("%q goes on wrongly", s)
		}
		text.Wants("a")
		if text.Ended() || !text.Takes("b") || !text.Ended() || !text.Ended() {
			t.Fatalf("%q ends wrongly", s)
		}
	}
}

func TestOtherBytesAreNotSkipped(t *testing.T) {
	for _, s := range []string{"\t1", "\n1", "\x001", "\u00a01"} {
		text := Of(s)
		if text.Takes("1") || text.Ended() || text.Ahead(IsDigit) != "" {
			t.Errorf("something of %q is skipped", s)
		}
	}
}

func TestBlanksOfTightTextsAreNotSkipped(t *testing.T) {
	text := Tight(" 12  ")
	if rest, at := text.Rest(); rest != " 12  " || at != 0 || text.Ended() || text.Takes("1") || text.Ahead(IsDigit) != "" {
		t.Errorf("%q is left, from %d on", rest, at)
	}
	text.Wants(" ")
	if run, at := text.Run(IsDigit); run != "12" || at != 1 {
		t.Errorf("%q at %d", run, at)
	}
	if f, ok := gaveUp(func() { text.Wants("x") }); !ok || f != (Fault{Err: api.ErrForm, At: 3}) {
		t.Errorf("%v, %v", f, ok)
	}
	if text.Ended() || !text.Takes("  ") || !text.Ended() {
		t.Error("blanks at the end aren't taken as they stand")
	}
}

func TestWantsGivesUpBehindBlanks(t *testing.T) {
	for s, at := range map[string]int{"": 0, "x": 0, "   x": 3, "   ": 3, " ~": 1} {
		text := Of(s)
		f, ok := gaveUp(func() { text.Wants("~~") })
		if !ok || f != (Fault{Err: api.ErrForm, At: at}) {
			t.Errorf("%q: %v, %v", s, f, ok)
		}
	}
	text := Of("  ~~")
	if f, ok := gaveUp(func() { text.Wants("~~") }); ok || !text.Ended() {
		t.Errorf("what stands there isn't taken: %v", f)
	}
}

func TestRestTellsWhereItBegins(t *testing.T) {
	text := Of("  a   b c  ")
	for _, want := range []struct {
		sign, rest string
		at         int
	}{{"a", "a   b c  ", 2}, {"b", "b c  ", 6}, {"c", "c  ", 8}} {
		for range 2 {
			if rest, at := text.Rest(); rest != want.rest || at != want.at {
				t.Errorf("%q at %d, not %q at %d", rest, at, want.rest, want.at)
			}
		}
		text.Wants(want.sign)
	}
	if rest, at := text.Rest(); rest != "" || at != 11 || !text.Ended() {
		t.Errorf("at the end %q is left, at %d", rest, at)
	}
}

func TestRunTellsWhereItBegins(t *testing.T) {
	text := Of(" 0129 /:9")
	for _, want := range []struct {
		run string
		at  int
	}{{"0129", 1}, {"", 6}, {"", 6}} {
		if run, at := text.Run(IsDigit); run != want.run || at != want.at {
			t.Errorf("%q at %d, not %q at %d", run, at, want.run, want.at)
		}
	}
	if !text.Takes("/:") || text.Ahead(IsDigit) != "9" || text.Ahead(IsDigit) != "9" {
		t.Error("a run that was asked for is passed over")
	}
}
