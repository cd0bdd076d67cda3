package table

import (
	"encoding/binary"
	"fmt"
	"math"
	"math/rand"
	"reflect"
	"strings"
	"testing"

	"florin/api"
	"florin/glyph"
	"florin/rule"
)

// full is a table that has something in each of its fields, nothing twice.
func full() Table {
	return Table{
		Digits: glyph.Set{"d0", "d1", "d2", "d3", "d4", "d5", "d6", "d7", "d8", "d9"},
		Minus:  "minus", Plus: "plus", Percent: "percent", Permille: "permille",
		Point: "point", Comma: "comma",
		MinGroup: 300,
		Decimal:  "decimal", Per: "per", Money: "money", Account: "account",
		Rules: "rules",
		Short: []Row{{3, []Text{{rule.One, "short1"}, {rule.Other, "short2"}}}, {4, []Text{{rule.Zero, "short3"}}}},
		Long:  []Row{{5, []Text{{rule.Few, "long1"}}}},
		MoneyShort: []Row{
			{6, nil}, {7, []Text{{rule.Two, "ms1"}}}, {128, []Text{{rule.Many, ""}}},
		},
		Currencies: []Currency{
			{"code1", "symbol1", "narrow1", []Text{{rule.Two, "name1"}, {rule.Many, "name2"}}, 8, 9, 10, 11},
			{"code2", "symbol2", "narrow2", nil, 12, 13, 14, 15},
		},
		Units:     []Unit{{"unit1", []Text{{rule.Few, "u1"}, {rule.Other, "u2"}}}, {"unit2", []Text{{rule.Zero, "u3"}}}},
		MoneyUnit: []Text{{rule.One, "mu1"}, {rule.Two, "mu2"}},
		Before:    Spacing{"bc", "bn", "bi"},
		After:     Spacing{"ac", "an", "ai"},
	}
}

// bytesOf is numbers and texts as bytes, by the library.
func bytesOf(things ...any) string {
	var b []byte
	for _, thing := range things {
		switch x := thing.(type) {
		case int:
			b = binary.AppendUvarint(b, uint64(x))
		case string:
			b = append(binary.AppendUvarint(b, uint64(len(x))), x...)
		}
	}
	return string(b)
}

// fullBytes is the bytes of full, thing by thing.
func fullBytes() string {
	return bytesOf(
		"d0", "d1", "d2", "d3", "d4", "d5", "d6", "d7", "d8", "d9",
		"minus", "plus", "percent", "permille", "point", "comma",
		"decimal", "per", "money", "account", "rules",
		"bc", "bn", "bi", "ac", "an", "ai",
		300,
		2, 3, 2, 1, "short1", 5, "short2", 4, 1, 0, "short3",
		1, 5, 1, 3, "long1",
		3, 6, 0, 7, 1, 2, "ms1", 128, 1, 4, "",
		2,
		"code1", "symbol1", "narrow1", 2, 2, "name1", 4, "name2", 8, 9, 10, 11,
		"code2", "symbol2", "narrow2", 0, 12, 13, 14, 15,
		2, "unit1", 2, 3, "u1", 5, "u2", "unit2", 1, 0, "u3",
		2, 1, "mu1", 2, "mu2",
	)
}

// wantTable fails unless the table that a text is, is that one, and has that text.
func wantTable(t *testing.T, s string, want Table) {
	t.Helper()
	got, e := Decode(s)
	if e != api.OK || !got.Same(want) || !want.Same(got) || got.Encode() != s {
		t.Errorf("%.200q is %+v, error %d, not %+v", s, got, e, want)
	}
}

// wantError fails unless a text has that error, and nothing beside it.
func wantError(t *testing.T, s string, want api.Errno) {
	t.Helper()
	if got, e := Decode(s); e != want || !reflect.DeepEqual(got, Table{}) {
		t.Errorf("%.200q is %+v, error %d, not %d", s, got, e, want)
	}
}

// wantSame fails unless two tables are the same, or aren't.
func wantSame(t *testing.T, a, b Table, want bool, what string) {
	t.Helper()
	if a.Same(b) != want || b.Same(a) != want {
		t.Errorf("%s: Same is %v, %v, not %v", what, a.Same(b), b.Same(a), want)
	}
}

// P15.1 and P15.2

func TestExampleOfTheChapter(t *testing.T) {
	if s := (Table{}).Encode(); s != strings.Repeat("\x00", 34) {
		t.Errorf("% x", s)
	}
	wantTable(t, strings.Repeat("\x00", 34), Table{})
}

func TestEncode(t *testing.T) {
	if s := full().Encode(); s != fullBytes() {
		t.Errorf("%q\nnot\n%q", s, fullBytes())
	}
	if s := (Table{Minus: "-", MinGroup: 128, Units: []Unit{{}}}).Encode(); s != strings.Repeat("\x00", 10)+"\x01-"+strings.Repeat("\x00", 16)+"\x80\x01\x00\x00\x00\x00\x01\x00\x00\x00" {
		t.Errorf("% x", s)
	}
}

func TestEncodeLaysNumbersBelowNoughtAsNought(t *testing.T) {
	for _, n := range []int{-1, -128, math.MinInt} {
		low, nought := numbered(n), numbered(0)
		if low.Encode() != nought.Encode() {
			t.Errorf("%d: % x", n, low.Encode())
		}
		wantSame(t, low, nought, false, "numbers below 0")
		wantTable(t, low.Encode(), nought)
	}
}

// numbered is a table of which each number is that one.
func numbered(n int) Table {
	texts := []Text{{rule.Cat(n), "x"}}
	rows := []Row{{n, texts}}
	return Table{
		MinGroup: n, Short: rows, Long: rows, MoneyShort: rows,
		Currencies: []Currency{{"", "", "", texts, n, n, n, n}},
		Units:      []Unit{{"", texts}}, MoneyUnit: texts,
	}
}

func TestNumbersOfAnySize(t *testing.T) {
	for _, n := range []int{0, 1, 5, 6, 127, 128, 16384, 1 << 31, 1 << 32, 1 << 62, math.MaxInt} {
		x := numbered(n)
		wantTable(t, x.Encode(), x)
		if got, want := x.Encode(), bytesOf(n); strings.Count(got, want) < 13 {
			t.Errorf("%d: % x", n, got)
		}
	}
}

func TestTextsOfAnyBytes(t *testing.T) {
	for _, s := range []string{"\x00", "\xff", "€", "\x80\x80", strings.Repeat("x", 127), strings.Repeat("x", 128), strings.Repeat("\xff", 1000)} {
		var x Table
		for _, text := range textsOf(&x) {
			text.SetString(s)
		}
		x.Short = []Row{{1, []Text{{rule.Other, s}}}}
		x.Currencies = []Currency{{Code: s, Symbol: s, Narrow: s, Names: []Text{{rule.Other, s}}}}
		x.Units = []Unit{{Name: s}}
		wantTable(t, x.Encode(), x)
	}
}

// textsOf is where all the texts of a table stand.
func textsOf(x *Table) []reflect.Value {
	var found []reflect.Value
	eachLeaf(reflect.ValueOf(x).Elem(), "Table", func(v reflect.Value, _ string) {
		if v.Kind() == reflect.String {
			found = append(found, v)
		}
	})
	return found
}

// eachLeaf goes through all numbers and texts of a thing, and tells where each is.
func eachLeaf(v reflect.Value, name string, do func(reflect.Value, string)) {
	switch v.Kind() {
	case reflect.Struct:
		for i := range v.NumField() {
			eachLeaf(v.Field(i), name+"."+v.Type().Field(i).Name, do)
		}
	case reflect.Slice, reflect.Array:
		for i := range v.Len() {
			eachLeaf(v.Index(i), fmt.Sprintf("%s[%d]", name, i), do)
		}
	default:
		do(v, name)
	}
}

// eachList goes through all lists of a thing, and tells where each is.
func eachList(v reflect.Value, name string, do func(reflect.Value, string)) {
	switch v.Kind() {
	case reflect.Struct:
		for i := range v.NumField() {
			eachList(v.Field(i), name+"."+v.Type().Field(i).Name, do)
		}
	case reflect.Slice:
		do(v, name)
		for i := range v.Len() {
			eachList(v.Index(i), fmt.Sprintf("%s[%d]", name, i), do)
		}
	}
}

// P15.3

func TestDecode(t *testing.T) {
	wantTable(t, fullBytes(), full())
	got, _ := Decode(fullBytes())
	if !reflect.DeepEqual(got, full()) {
		t.Errorf("%+v\nnot\n%+v", got, full())
	}
}

func TestEachFieldIsToldAgain(t *testing.T) {
	names := 0
	eachOther(func(x Table, name string) {
		names++
		wantTable(t, x.Encode(), x)
		if x.Encode() == fullBytes() {
			t.Errorf("%s isn't laid", name)
		}
	})
	if names != 76 {
		t.Errorf("%d fields", names)
	}
}

// eachOther tells, for each number and each text of full, full with another one there.
func eachOther(do func(x Table, name string)) {
	count := 0
	one := full()
	eachLeaf(reflect.ValueOf(&one).Elem(), "Table", func(reflect.Value, string) { count++ })
	for k := range count {
		x := full()
		at, where := 0, ""
		eachLeaf(reflect.ValueOf(&x).Elem(), "Table", func(v reflect.Value, name string) {
			if at == k {
				where = name
				if v.Kind() == reflect.String {
					v.SetString(v.String() + "?")
				} else {
					v.SetInt(v.Int() + 1)
				}
			}
			at++
		})
		do(x, where)
	}
}

func TestTextsThatAreNotWhole(t *testing.T) {
	for _, s := range []string{fullBytes(), (Table{}).Encode(), numbered(300).Encode()} {
		for size := range len(s) {
			wantError(t, s[:size], api.ErrForm)
		}
	}
}

func TestNothingMayStandBehind(t *testing.T) {
	for _, s := range []string{fullBytes(), (Table{}).Encode()} {
		for _, behind := range []string{"\x00", "\x01", "\x80", "x", s} {
			wantError(t, s+behind, api.ErrForm)
		}
	}
}

func TestOtherFormsOfNumbers(t *testing.T) {
	empty := (Table{}).Encode()
	for at := range len(empty) {
		for _, other := range []string{"\x80\x00", "\x80\x80\x00", "\xff\xff\xff\xff\xff\xff\xff\xff\xff\x00", "\xff\xff\xff\xff\xff\xff\xff\xff\xff\x01", "\x80\x80\x80\x80\x80\x80\x80\x80\x80"} {
			wantError(t, empty[:at]+other+empty[at+1:], api.ErrForm)
		}
	}
	wantError(t, strings.Repeat("\x00", 27)+"\x85\x00"+strings.Repeat("\x00", 6), api.ErrForm)
	wantTable(t, strings.Repeat("\x00", 27)+"\x85\x01"+strings.Repeat("\x00", 6), Table{MinGroup: 133})
}

func TestMoreThanThereCanBe(t *testing.T) {
	empty := (Table{}).Encode()
	for at := range len(empty) {
		if at == 27 {
			continue // MinGroup: no count
		}
		for _, n := range []int{1000, 1 << 16, 1<<16 + 1, 1 << 31, 1 << 32, 1 << 62, math.MaxInt} {
			wantError(t, empty[:at]+bytesOf(n)+empty[at+1:], api.ErrForm)
			wantError(t, empty[:at]+bytesOf(n)+strings.Repeat("\x00", 900), api.ErrForm)
		}
	}
}

func TestBytesOfATable(t *testing.T) {
	most := strings.Repeat("x", 1<<16-34-2)
	if s := (Table{Rules: most}).Encode(); len(s) != 1<<16 {
		t.Fatalf("%d bytes", len(s))
	}
	wantTable(t, (Table{Rules: most}).Encode(), Table{Rules: most})
	wantError(t, (Table{Rules: most + "x"}).Encode(), api.ErrMany)
	for _, size := range []int{1<<16 + 1, 1 << 17, 1 << 20} {
		for _, b := range []string{"\x00", "\x80", "\xff", "a"} {
			wantError(t, strings.Repeat(b, size), api.ErrMany)
		}
	}
	for _, b := range []string{"\x00", "\x80", "\xff", "a"} {
		wantError(t, strings.Repeat(b, 1<<16), api.ErrForm)
	}
}

func TestAsManyAsThereCanBe(t *testing.T) {
	// Rows and texts of two bytes are the least that a list has; all bytes but those of the rest are theirs.
	count := (1<<16 - 34 - 2) / 2
	x := Table{Short: make([]Row, count)}
	wantTable(t, x.Encode(), x)
	y := Table{MoneyUnit: make([]Text, count)}
	wantTable(t, y.Encode(), y)
	if len(x.Encode()) != 1<<16 || len(y.Encode()) != 1<<16 {
		t.Errorf("%d, %d bytes", len(x.Encode()), len(y.Encode()))
	}
	wantError(t, (Table{Short: make([]Row, count+1)}).Encode(), api.ErrMany)
}

func TestEachTextIsTheBytesOfWhatItIsReadAs(t *testing.T) {
	source := rand.New(rand.NewSource(15))
	seeds := []string{fullBytes(), (Table{}).Encode(), numbered(5).Encode()}
	tables := 0
	for range 200000 {
		s := []byte(seeds[source.Intn(len(seeds))])
		for range 1 + source.Intn(3) {
			at := source.Intn(len(s))
			switch source.Intn(4) {
			case 0:
				s[at] = byte(source.Intn(256))
			case 1:
				s[at] = byte(source.Intn(8))
			case 2:
				s = append(s[:at:at], s[at+1:]...)
			default:
				s = append(append(s[:at:at], byte(source.Intn(4))), s[at:]...)
			}
		}
		x, e := Decode(string(s))
		switch {
		case e == api.OK:
			tables++
			if x.Encode() != string(s) {
				t.Fatalf("%q is read as %+v", s, x)
			}
		case e != api.ErrForm || !reflect.DeepEqual(x, Table{}):
			t.Fatalf("%q is %+v, error %d", s, x, e)
		}
	}
	if tables < 2000 {
		t.Errorf("only %d tables", tables)
	}
}

// anyTexts is texts of categories of all sorts.
func anyTexts(source *rand.Rand) []Text {
	var list []Text
	for range source.Intn(4) {
		list = append(list, Text{rule.Cat(source.Intn(7)), anyText(source)})
	}
	return list
}

func anyText(source *rand.Rand) string {
	return strings.Repeat(string([]byte{byte(source.Intn(256))}), source.Intn(200)>>source.Intn(8))
}

func anyRows(source *rand.Rand) []Row {
	var list []Row
	for range source.Intn(4) {
		list = append(list, Row{source.Int() >> source.Intn(63), anyTexts(source)})
	}
	return list
}

func TestTablesAreToldAgain(t *testing.T) {
	source := rand.New(rand.NewSource(16))
	for range 5000 {
		var x Table
		for _, text := range textsOf(&x) {
			text.SetString(anyText(source))
		}
		x.MinGroup = source.Intn(300)
		x.Short, x.Long, x.MoneyShort = anyRows(source), anyRows(source), anyRows(source)
		for range source.Intn(4) {
			x.Currencies = append(x.Currencies, Currency{anyText(source), anyText(source), anyText(source), anyTexts(source), source.Intn(9), source.Int(), source.Intn(300), source.Intn(9)})
			x.Units = append(x.Units, Unit{anyText(source), anyTexts(source)})
		}
		x.MoneyUnit = anyTexts(source)
		wantTable(t, x.Encode(), x)
	}
}

func TestAnswersAreNewMemory(t *testing.T) {
	s := fullBytes()
	a, _ := Decode(s)
	b, _ := Decode(s)
	eachLeaf(reflect.ValueOf(&a).Elem(), "Table", func(v reflect.Value, _ string) { v.SetZero() })
	wantSame(t, b, full(), true, "what was told once more")
	// No two lists share any: what is put behind one is in no other.
	before := b.Encode()
	eachList(reflect.ValueOf(&b).Elem(), "Table", func(v reflect.Value, name string) {
		reflect.Append(v, reflect.New(v.Type().Elem()).Elem())
		if b.Encode() != before {
			t.Errorf("something behind %s is seen elsewhere", name)
		}
	})
}

func TestNothingIsTurned(t *testing.T) {
	x, y := full(), full()
	x.Encode()
	x.Same(y)
	if !reflect.DeepEqual(x, full()) || !reflect.DeepEqual(y, full()) {
		t.Error("a table was turned")
	}
}

func TestSame(t *testing.T) {
	wantSame(t, full(), full(), true, "full")
	wantSame(t, Table{}, Table{}, true, "empty")
	wantSame(t, Table{}, full(), false, "full and empty")
	eachOther(func(x Table, name string) {
		wantSame(t, x, full(), false, name)
		wantSame(t, x, x, true, name)
	})
	one := full()
	for k := range textsOf(&one) {
		x := full()
		text := textsOf(&x)[k]
		empty := text.String() == ""
		text.SetString("")
		wantSame(t, x, full(), empty, "an empty text")
	}
}

func TestSameOfLists(t *testing.T) {
	lists := 0
	one := full()
	eachList(reflect.ValueOf(&one).Elem(), "Table", func(reflect.Value, string) { lists++ })
	for k := range lists {
		for what, turn := range map[string]func(v reflect.Value){
			"without its last": func(v reflect.Value) { v.SetLen(v.Len() - 1) },
			"without any":      func(v reflect.Value) { v.SetZero() },
			"with one more":    func(v reflect.Value) { v.Set(reflect.Append(v, reflect.New(v.Type().Elem()).Elem())) },
			"the other way round": func(v reflect.Value) {
				swap := reflect.Swapper(v.Interface())
				swap(0, v.Len()-1)
			},
		} {
			x := full()
			at := 0
			eachList(reflect.ValueOf(&x).Elem(), "Table", func(v reflect.Value, name string) {
				if at == k {
					empty := v.Len() == 0
					if !empty || what == "with one more" {
						turn(v)
					}
					same := empty && what != "with one more" || v.Len() == 1 && what == "the other way round"
					wantSame(t, x, full(), same, name+" "+what)
					wantTable(t, x.Encode(), x)
				}
				at++
			})
		}
	}
	if lists != 16 {
		t.Errorf("%d lists", lists)
	}
}

func TestNilAndEmptyAreOne(t *testing.T) {
	texts := []Text{}
	x := Table{Short: []Row{{Texts: texts}}, Long: []Row{}, MoneyShort: []Row{}, Currencies: []Currency{{Names: texts}}, Units: []Unit{{Texts: texts}}, MoneyUnit: texts}
	y := Table{Short: []Row{{}}, Currencies: []Currency{{}}, Units: []Unit{{}}}
	wantSame(t, x, y, true, "empty lists")
	wantSame(t, Table{Short: []Row{}, Currencies: []Currency{}, Units: []Unit{}}, Table{}, true, "empty lists")
	if x.Encode() != y.Encode() {
		t.Error("their bytes are others")
	}
	wantTable(t, x.Encode(), x)
}

func TestSameHoldsNumbersBelowNoughtAgainstEachOther(t *testing.T) {
	wantSame(t, numbered(-1), numbered(-1), true, "-1")
	wantSame(t, numbered(-1), numbered(-2), false, "-1 and -2")
	wantSame(t, Table{MinGroup: -1}, Table{}, false, "MinGroup")
	wantSame(t, Table{Short: []Row{{Mag: -1}}}, Table{Short: []Row{{}}}, false, "Mag")
	wantSame(t, Table{MoneyUnit: []Text{{Cat: -1}}}, Table{MoneyUnit: []Text{{}}}, false, "Cat")
	wantSame(t, Table{Currencies: []Currency{{Inc: math.MinInt}}}, Table{Currencies: []Currency{{}}}, false, "Inc")
}
