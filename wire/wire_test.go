package wire

import (
	"encoding/binary"
	"math"
	"math/rand"
	"strings"
	"testing"
)

// laid is a number as it is laid.
func laid(n int) string { return new(Writer).Num(n).String() }

// edges is the numbers about each power of two.
func edges() []int {
	list := []int{0, math.MaxInt, math.MaxInt - 1}
	for bit := range 63 {
		list = append(list, 1<<bit-1, 1<<bit, 1<<bit+1)
	}
	return list
}

// wantNothing fails unless a reader has met an error, and tells nothing any more.
func wantNothing(t *testing.T, r *Reader, what string) {
	t.Helper()
	for range 2 {
		if r.OK() || r.Done() || r.Num() != 0 || r.Text() != "" || r.Count(math.MaxInt) != 0 {
			t.Errorf("%s: something is told behind an error", what)
		}
	}
}

// wantNoNumber fails unless no number stands at a text's beginning.
func wantNoNumber(t *testing.T, s string) {
	t.Helper()
	for _, behind := range []string{"", "\x00", "\x01a", "\x80\x01"} {
		if s == "" || s[len(s)-1] >= 0x80 && len(s) < 9 {
			behind = "" // what stands behind would belong to the number
		}
		r := New(s + behind)
		if n := r.Num(); n != 0 {
			t.Errorf("% x: the number %d", s, n)
		}
		wantNothing(t, r, "Num of "+s)
		r = New(s + behind)
		if n := r.Count(math.MaxInt); n != 0 {
			t.Errorf("% x: the count %d", s, n)
		}
		wantNothing(t, r, "Count of "+s)
		r = New(s + behind)
		if text := r.Text(); text != "" {
			t.Errorf("% x: the text %q", s, text)
		}
		wantNothing(t, r, "Text of "+s)
	}
}

// P14.1

func TestExamplesOfTheChapter(t *testing.T) {
	if s := laid(300); s != "\xac\x02" {
		t.Errorf("300 is % x", s)
	}
	if s := new(Writer).Text("a").String(); s != "\x01a" {
		t.Errorf("a is % x", s)
	}
}

func TestNumbersAreLaid(t *testing.T) {
	for n, want := range map[int]string{
		0: "\x00", 1: "\x01", 127: "\x7f", 128: "\x80\x01", 129: "\x81\x01", 255: "\xff\x01", 256: "\x80\x02", 16383: "\xff\x7f", 16384: "\x80\x80\x01", 65536: "\x80\x80\x04",
		math.MaxInt64: "\xff\xff\xff\xff\xff\xff\xff\xff\x7f", 1 << 62: "\x80\x80\x80\x80\x80\x80\x80\x80\x40",
	} {
		if got := laid(n); got != want {
			t.Errorf("%d is % x, not % x", n, got, want)
		}
	}
	for _, n := range edges() {
		if got := laid(n); got != string(binary.AppendUvarint(nil, uint64(n))) {
			t.Errorf("%d is % x", n, got)
		}
	}
}

func TestNumbersBelowNoughtAreNought(t *testing.T) {
	for _, n := range []int{-1, -127, -128, -129, -300, math.MinInt32, math.MinInt + 1, math.MinInt} {
		if got := laid(n); got != "\x00" {
			t.Errorf("%d is % x", n, got)
		}
	}
}

func TestTextsAreLaid(t *testing.T) {
	for _, s := range []string{"", "a", "€", "\x00", "\xff\x80", strings.Repeat("x", 127), strings.Repeat("x", 128), strings.Repeat("€", 1<<16)} {
		if got := new(Writer).Text(s).String(); got != laid(len(s))+s {
			t.Errorf("a text of %d bytes is %d bytes, beginning with % x", len(s), len(got), got[:1])
		}
	}
}

func TestThingsStandSideBySide(t *testing.T) {
	w := &Writer{}
	if s := w.String(); s != "" {
		t.Errorf("% x before anything was laid", s)
	}
	if w.Num(300) != w || w.Text("ab") != w || w.Num(-1) != w || w.Text("") != w {
		t.Error("another writer is told")
	}
	const want = "\xac\x02\x02ab\x00\x00"
	if s := w.String(); s != want {
		t.Errorf("% x", s)
	}
	if s := w.Num(5).String(); s != want+"\x05" {
		t.Errorf("% x once something was told and more was laid", s)
	}
	if s := w.String(); s != want+"\x05" {
		t.Errorf("% x when it is told again", s)
	}
}

func TestCopiesOfAWriterGoOnByThemselves(t *testing.T) {
	a := &Writer{}
	for n := range 20 {
		a.Num(n)
		ahead := a.String()
		b, c := *a, *a
		b.Text("b")
		a.Num(77)
		c.Text("cc").Num(3)
		if b.String() != ahead+"\x01b" || a.String() != ahead+"\x4d" || c.String() != ahead+"\x02cc\x03" {
			t.Fatalf("behind % x: % x, % x, % x", ahead, a.String(), b.String(), c.String())
		}
	}
}

func TestManyThings(t *testing.T) {
	const count = 1 << 20
	w := &Writer{}
	for n := range count {
		w.Num(n).Text("é")
	}
	r := New(w.String())
	for n := range count {
		if r.Num() != n || r.Text() != "é" {
			t.Fatalf("%d isn't told again", n)
		}
	}
	if !r.Done() {
		t.Error("more is left")
	}
}

// P14.2

func TestNumbersAreRead(t *testing.T) {
	for _, n := range edges() {
		for _, behind := range []string{"", "\x00", "\x80", "\x7f"} {
			r := New(laid(n) + behind)
			if got := r.Num(); got != n || !r.OK() || r.Done() != (behind == "") {
				t.Errorf("%d with % x behind is %d, OK %v, Done %v", n, behind, got, r.OK(), r.Done())
			}
		}
	}
}

func TestNumbersThatAreNotWhole(t *testing.T) {
	wantNoNumber(t, "")
	for _, n := range edges() {
		s := laid(n)
		for size := range len(s) {
			wantNoNumber(t, s[:size])
		}
	}
}

func TestOtherFormsOfNumbers(t *testing.T) {
	for _, s := range []string{"\x80\x00", "\x81\x00", "\xff\x00", "\x80\x80\x00", "\xac\x82\x00", "\xff\xff\xff\x00", "\xff\xff\xff\xff\xff\xff\xff\xff\x00"} {
		wantNoNumber(t, s)
	}
	for _, n := range edges() {
		s := laid(n)
		long := s[:len(s)-1] + string([]byte{s[len(s)-1] | 0x80})
		for len(long) < 12 {
			wantNoNumber(t, long+"\x00")
			long += "\x80"
		}
	}
}

func TestNumbersHaveNineBytesAtMost(t *testing.T) {
	eight := strings.Repeat("\xff", 8)
	if r := New(eight + "\x7f"); r.Num() != math.MaxInt || !r.Done() {
		t.Error("the greatest number")
	}
	for _, s := range []string{eight + "\xff\x00", eight + "\xff\x01", eight + "\xff\x7f", eight + "\x80\x01", strings.Repeat("\x80", 9) + "\x01", eight + "\xff", strings.Repeat("\xff", 20), strings.Repeat("\x80", 1<<20)} {
		wantNoNumber(t, s)
	}
}

// told is the number of at most nine bytes with which a text begins, by the library; false: there is none.
func told(s string) (int, int, bool) {
	u, size := binary.Uvarint([]byte(s))
	if size <= 0 || size > 9 || string(binary.AppendUvarint(nil, u)) != s[:size] {
		return 0, 0, false
	}
	return int(u), size, true
}

func TestEachShortTextIsHeldAgainstTheLibrary(t *testing.T) {
	signs := []byte{0x00, 0x01, 0x02, 0x7f, 0x80, 0x81, 0xff}
	var hold func(s string, depth int)
	hold = func(s string, depth int) {
		want, size, ok := told(s)
		r := New(s)
		if n := r.Num(); n != want || r.OK() != ok || r.Done() != (ok && size == len(s)) {
			t.Errorf("% x is %d, OK %v, Done %v", s, n, r.OK(), r.Done())
		}
		for _, sign := range signs {
			if depth > 0 {
				hold(s+string([]byte{sign}), depth-1)
			}
		}
	}
	hold("", 5)
	source := rand.New(rand.NewSource(14))
	for range 200000 {
		s := make([]byte, source.Intn(12))
		for i := range s {
			s[i] = byte(source.Intn(256)) | byte(source.Intn(8)>>2<<7)
		}
		hold(string(s), 0)
	}
}

func TestTextsAreRead(t *testing.T) {
	for _, s := range []string{"", "a", "€", "\x00", "\xff\x80", strings.Repeat("x", 127), strings.Repeat("x", 128), strings.Repeat("€", 1<<16)} {
		r := New(laid(len(s)) + s)
		if got := r.Text(); got != s || !r.OK() || !r.Done() {
			t.Errorf("a text of %d bytes is one of %d, OK %v, Done %v", len(s), len(got), r.OK(), r.Done())
		}
		r = New(laid(len(s)) + s + "x")
		if got := r.Text(); got != s || !r.OK() || r.Done() {
			t.Errorf("with x behind, a text of %d bytes is one of %d, OK %v, Done %v", len(s), len(got), r.OK(), r.Done())
		}
	}
}

func TestTextsThatAreNotWhole(t *testing.T) {
	for _, size := range []int{1, 2, 5, 127, 128, 129, 300, 1 << 14, 1 << 40, math.MaxInt} {
		for _, there := range []int{0, 1, size - 3, size - 2, size - 1} {
			if there < 0 || there >= size || there > 1<<20 {
				continue
			}
			r := New(laid(size) + strings.Repeat("x", there))
			if text := r.Text(); text != "" {
				t.Errorf("of %d bytes, %d there, %d are told", size, there, len(text))
			}
			wantNothing(t, r, "a text that isn't whole")
		}
	}
	for _, s := range []string{"\x81\x00a", "\x80", "\x80\x00"} {
		r := New(s)
		if text := r.Text(); text != "" {
			t.Errorf("% x: %q", s, text)
		}
		wantNothing(t, r, s)
	}
}

func TestCount(t *testing.T) {
	for _, n := range edges() {
		for _, most := range []int{math.MinInt, -1, 0, 1, n - 1, n, n + 1, math.MaxInt} {
			r := New(laid(n) + "\x01a")
			got := r.Count(most)
			if n > most {
				if got != 0 {
					t.Errorf("%d is %d where %d is the most", n, got, most)
				}
				wantNothing(t, r, "Count")
			} else if got != n || r.Text() != "a" || !r.Done() {
				t.Errorf("%d is %d where %d is the most", n, got, most)
			}
		}
	}
}

func TestFail(t *testing.T) {
	for _, s := range []string{"", "\x05", "\x01a\x02", "\x80"} {
		r := New(s)
		r.Fail()
		wantNothing(t, r, "Fail")
		r.Fail()
		wantNothing(t, r, "Fail again")
	}
	r := New("\x05\x06")
	if r.Num() != 5 {
		t.Error("not 5")
	}
	r.Fail()
	wantNothing(t, r, "Fail in the middle")
}

func TestOKAndDone(t *testing.T) {
	r := New("")
	if !r.OK() || !r.Done() {
		t.Error("nothing is to be read, and no error was there")
	}
	r = New("\x05\x01a")
	for range 2 {
		if !r.OK() || r.Done() {
			t.Error("nothing was read yet")
		}
	}
	r.Num()
	if !r.OK() || r.Done() {
		t.Error("a text is left")
	}
	r.Text()
	if !r.OK() || !r.Done() {
		t.Error("all was read")
	}
	r.Num()
	wantNothing(t, r, "the end")
}

func TestReaderOfNothing(t *testing.T) {
	var r Reader
	if !r.OK() || !r.Done() {
		t.Error("nothing is to be read")
	}
	if r.Text() != "" {
		t.Error("a text is told")
	}
	wantNothing(t, &r, "the end of nothing")
}

func TestCopiesOfAReaderGoOnByThemselves(t *testing.T) {
	a := New("\x05\x06\x07")
	a.Num()
	b := *a
	if a.Num() != 6 || b.Num() != 6 || b.Num() != 7 || a.Num() != 7 {
		t.Error("one reads what the other leaves")
	}
	b = *New("\x01")
	c := b
	b.Fail()
	if !c.OK() || c.Num() != 1 {
		t.Error("the error of one is the other's")
	}
}

func TestWhatWasLaidIsRead(t *testing.T) {
	source := rand.New(rand.NewSource(15))
	for range 2000 {
		w := &Writer{}
		var things []any
		for range source.Intn(30) {
			if source.Intn(2) == 0 {
				n := source.Int() >> source.Intn(63)
				things = append(things, n)
				w.Num(n)
			} else {
				text := strings.Repeat(string(rune(source.Intn(0x300))), source.Intn(200))
				things = append(things, text)
				w.Text(text)
			}
		}
		r := New(w.String())
		for _, thing := range things {
			switch x := thing.(type) {
			case int:
				if got := r.Num(); got != x {
					t.Fatalf("%d is read as %d", x, got)
				}
			case string:
				if got := r.Text(); got != x {
					t.Fatalf("%q is read as %q", x, got)
				}
			}
		}
		if !r.Done() {
			t.Fatal("more is left")
		}
	}
}
