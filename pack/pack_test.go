package pack

import (
	"bytes"
	"encoding/binary"
	"math"
	"slices"
	"strings"
	"testing"

	"tumbrel/api"
)

var numbers = []struct {
	n    int64
	want string
}{
	{0, "\x00"},
	{1, "\x01\x01"},
	{-1, "\x01\xff"},
	{126, "\x01\x7e"},
	{127, "\x01\x7f"},
	{128, "\x02\x00\x80"},
	{-128, "\x01\x80"},
	{-129, "\x02\xff\x7f"},
	{255, "\x02\x00\xff"},
	{256, "\x02\x01\x00"},
	{-256, "\x02\xff\x00"},
	{300, "\x02\x01\x2c"},
	{32767, "\x02\x7f\xff"},
	{32768, "\x03\x00\x80\x00"},
	{-32768, "\x02\x80\x00"},
	{-32769, "\x03\xff\x7f\xff"},
	{1 << 40, "\x06\x01\x00\x00\x00\x00\x00"},
	{1<<55 - 1, "\x07\x7f\xff\xff\xff\xff\xff\xff"},
	{1 << 55, "\x08\x00\x80\x00\x00\x00\x00\x00\x00"},
	{-1 << 55, "\x07\x80\x00\x00\x00\x00\x00\x00"},
	{-1<<55 - 1, "\x08\xff\x7f\xff\xff\xff\xff\xff\xff"},
	{math.MaxInt64, "\x08\x7f\xff\xff\xff\xff\xff\xff\xff"},
	{math.MinInt64, "\x08\x80\x00\x00\x00\x00\x00\x00\x00"},
}

// tellers are numbers around every place where the count of bytes may change.
func tellers() []int64 {
	list := []int64{0, math.MaxInt64, math.MinInt64}
	for i := range 63 {
		for d := int64(-2); d <= 2; d++ {
			list = append(list, 1<<i+d, -(1<<i)+d)
		}
	}
	return list
}

// wordsNumber is the chapter's sentence on a number's bytes, tried out length by length.
func wordsNumber(n int64) string {
	var eight [8]byte
	binary.BigEndian.PutUint64(eight[:], uint64(n))
	if n == 0 {
		return "\x00"
	}
	for w := 1; w < 8; w++ {
		first := byte(0)
		if eight[8-w] >= 0x80 {
			first = 0xff
		}
		told := append(bytes.Repeat([]byte{first}, 8-w), eight[8-w:]...)
		if bytes.Equal(told, eight[:]) {
			return string(rune(w)) + string(eight[8-w:])
		}
	}
	return "\x08" + string(eight[:])
}

// P1.1: Number writes the number's bytes behind what is there.
func TestNumber(t *testing.T) {
	for _, c := range numbers {
		for _, ahead := range []string{"", "x", "\x00\xff more"} {
			if got := Number([]byte(ahead), c.n); string(got) != ahead+c.want {
				t.Errorf("Number(%q, %d) = %x", ahead, c.n, got)
			}
		}
		if got := Number(nil, c.n); string(got) != c.want {
			t.Errorf("Number(nil, %d) = %x", c.n, got)
		}
	}
	for _, n := range tellers() {
		if got := Number(nil, n); string(got) != wordsNumber(n) {
			t.Errorf("Number(nil, %d) = %x, want %x", n, got, wordsNumber(n))
		}
	}
}

// P1.1: Text writes the text's bytes behind what is there.
func TestText(t *testing.T) {
	long := strings.Repeat("y", 300)
	for s, want := range map[string]string{
		"":                       "\x00",
		"a":                      "\x01\x01a",
		"ab":                     "\x01\x02ab",
		"\x00":                   "\x01\x01\x00",
		"\xff\xfe":               "\x01\x02\xff\xfe",
		"é":                      "\x01\x02\xc3\xa9",
		strings.Repeat("z", 127): "\x01\x7f" + strings.Repeat("z", 127),
		strings.Repeat("z", 128): "\x02\x00\x80" + strings.Repeat("z", 128),
		long:                     "\x02\x01\x2c" + long,
	} {
		for _, ahead := range []string{"", "x", "\x01\x02"} {
			if got := Text([]byte(ahead), s); string(got) != ahead+want {
				t.Errorf("Text(%q, %q) = %x", ahead, s, got)
			}
		}
		if got := Text(nil, s); string(got) != want {
			t.Errorf("Text(nil, %q) = %x", s, got)
		}
	}
}

// P1.1, P1.3: TakeNumber answers what Number wrote, whatever stands behind it.
func TestTakeNumber(t *testing.T) {
	for _, n := range tellers() {
		b := Number(nil, n)
		for _, behind := range []string{"", "\x00", "\xff\xff", "\x09 more"} {
			got, size, e := TakeNumber(append(bytes.Clone(b), behind...))
			if got != n || size != len(b) || e != api.OK {
				t.Errorf("%d with %q behind: %d %d %v", n, behind, got, size, e)
			}
		}
	}
	for _, c := range numbers {
		if got, size, e := TakeNumber([]byte(c.want)); got != c.n || size != len(c.want) || e != api.OK {
			t.Errorf("TakeNumber(%x) = %d %d %v", c.want, got, size, e)
		}
	}
}

// P1.1, R5, R6: each error of TakeNumber, with zeros beside it, in the order of the chapter.
func TestTakeNumberErrors(t *testing.T) {
	for s, want := range map[string]api.Errno{
		"":     api.ErrNone,
		"\x09": api.ErrForm,
		"\x09\x01\x02\x03\x04\x05\x06\x07\x08\x09": api.ErrForm,
		"\xff":                                 api.ErrForm,
		"\x80":                                 api.ErrForm,
		"\x01":                                 api.ErrNone,
		"\x02\x01":                             api.ErrNone,
		"\x02\x00":                             api.ErrNone,
		"\x08":                                 api.ErrNone,
		"\x08\x7f\xff\xff\xff\xff\xff\xff":     api.ErrNone,
		"\x01\x00":                             api.ErrForm,
		"\x02\x00\x00":                         api.ErrForm,
		"\x02\x00\x01":                         api.ErrForm,
		"\x02\x00\x7f":                         api.ErrForm,
		"\x02\xff\x80":                         api.ErrForm,
		"\x02\xff\xff":                         api.ErrForm,
		"\x08\x00\x00\x00\x00\x00\x00\x00\x00": api.ErrForm,
		"\x08\x00\x7f\xff\xff\xff\xff\xff\xff": api.ErrForm,
		"\x08\xff\x80\x00\x00\x00\x00\x00\x00": api.ErrForm,
		"\x08\xff\xff\xff\xff\xff\xff\xff\xff": api.ErrForm,
	} {
		if n, size, e := TakeNumber([]byte(s)); n != 0 || size != 0 || e != want {
			t.Errorf("TakeNumber(%x) = %d %d %v, want %v", s, n, size, e, want)
		}
	}
	if n, size, e := TakeNumber(nil); n != 0 || size != 0 || e != api.ErrNone {
		t.Error(n, size, e)
	}
}

// P1.1, P1.3: of all short lists of bytes those are taken that Number writes, and no others.
func TestTakeNumberOfAllShortBytes(t *testing.T) {
	written := map[string]int64{}
	for n := int64(-1 << 15); n < 1<<15; n++ {
		written[string(Number(nil, n))] = n
	}
	if len(written) != 1<<16 {
		t.Fatal("two numbers have the same bytes")
	}
	for first := range 3 {
		for rest := range 1 << 16 {
			b := []byte{byte(first), byte(rest >> 8), byte(rest)}
			n, size, e := TakeNumber(b)
			want, right := written[string(b[:1+first])]
			if right && (n != want || size != 1+first || e != api.OK) {
				t.Fatalf("%x: %d %d %v", b, n, size, e)
			}
			if !right && (n != 0 || size != 0 || e != api.ErrForm) {
				t.Fatalf("%x: %d %d %v", b, n, size, e)
			}
		}
	}
}

// P1.1, P1.3: TakeText answers what Text wrote, whatever stands behind it.
func TestTakeText(t *testing.T) {
	for _, s := range []string{"", "a", "ab", "\x00", "\xff\xfe\xfd", "é", strings.Repeat("z", 127), strings.Repeat("z", 128), strings.Repeat("q", 13000)} {
		b := Text(nil, s)
		for _, behind := range []string{"", "\x00", "more"} {
			got, size, e := TakeText(append(bytes.Clone(b), behind...))
			if got != s || size != len(b) || e != api.OK {
				t.Errorf("%.20q with %q behind: %.20q %d %v", s, behind, got, size, e)
			}
		}
	}
}

// P1.1, R5, R6: each error of TakeText, with zeros beside it, in the order of the chapter.
func TestTakeTextErrors(t *testing.T) {
	for s, want := range map[string]api.Errno{
		"":                                       api.ErrNone,
		"\x09ab":                                 api.ErrForm,
		"\x02\x01":                               api.ErrNone,
		"\x01\x00":                               api.ErrForm,
		"\x02\x00\x01a":                          api.ErrForm,
		"\x01\xff":                               api.ErrForm,
		"\x01\xffab":                             api.ErrForm,
		"\x01\x80":                               api.ErrForm,
		"\x01\x01":                               api.ErrNone,
		"\x01\x02a":                              api.ErrNone,
		"\x02\x00\x80abcd":                       api.ErrNone,
		"\x08\x7f\xff\xff\xff\xff\xff\xff\xffab": api.ErrNone,
		"\x08\x80\x00\x00\x00\x00\x00\x00\x00ab": api.ErrForm,
		"\x05\x01\x00\x00\x00\x00ab":             api.ErrNone,
		"\x05\x01\x00\x00\x00\x01ab":             api.ErrNone,
	} {
		if text, size, e := TakeText([]byte(s)); text != "" || size != 0 || e != want {
			t.Errorf("TakeText(%x) = %q %d %v, want %v", s, text, size, e, want)
		}
	}
	if text, size, e := TakeText(nil); text != "" || size != 0 || e != api.ErrNone {
		t.Error(text, size, e)
	}
}

// mixed is a list of count items, numbers and texts by turns.
func mixed(count int) []Item {
	list := []Item{}
	for i := range count {
		if i%2 == 0 {
			list = append(list, Item{N: int64(i*i - 300)})
		} else {
			list = append(list, Item{Text: true, S: strings.Repeat("t", i%200)})
		}
	}
	return list
}

// P1.2: the bytes of items, and the items of bytes.
func TestItemsAndRead(t *testing.T) {
	for _, c := range []struct {
		list []Item
		want string
	}{
		{nil, "\x00"},
		{[]Item{}, "\x00"},
		{[]Item{{}}, "\x01\x01\x01\x00"},
		{[]Item{{Text: true}}, "\x01\x01\x02\x00"},
		{[]Item{{N: -129}}, "\x01\x01\x01\x02\xff\x7f"},
		{[]Item{{N: math.MinInt64}}, "\x01\x01\x01\x08\x80\x00\x00\x00\x00\x00\x00\x00"},
		{[]Item{{Text: true, S: "ab"}, {N: 300}}, "\x01\x02\x02\x01\x02ab\x01\x02\x01\x2c"},
		{[]Item{{N: 5}, {Text: true, S: "x"}, {}}, "\x01\x03\x01\x01\x05\x02\x01\x01x\x01\x00"},
		{make([]Item, 128), "\x02\x00\x80" + strings.Repeat("\x01\x00", 128)},
		{make([]Item, api.MaxItems), "\x02\x0f\xa0" + strings.Repeat("\x01\x00", api.MaxItems)},
	} {
		b, e := Items(c.list)
		if string(b) != c.want || e != api.OK {
			t.Errorf("Items of %d: %x %v, want %x", len(c.list), b, e, c.want)
		}
		list, e := Read([]byte(c.want))
		if !slices.Equal(list, c.list) || e != api.OK {
			t.Errorf("Read(%.30x): %d items, %v", c.want, len(list), e)
		}
	}
}

// P1.3: Read undoes Items.
func TestReadUndoesItems(t *testing.T) {
	for _, count := range []int{0, 1, 2, 3, 127, 128, 129, 1000, api.MaxItems} {
		want := mixed(count)
		b, e := Items(want)
		if e != api.OK {
			t.Fatal(count, e)
		}
		if list, e := Read(b); !slices.Equal(list, want) || e != api.OK {
			t.Errorf("%d items: %d, %v", count, len(list), e)
		}
	}
}

// P1.2, R5, R6: each error of Items; a wrong item is told ahead of too many.
func TestItemsErrors(t *testing.T) {
	tooMany := make([]Item, api.MaxItems+1)
	wrongToo := slices.Clone(tooMany)
	wrongToo[api.MaxItems] = Item{S: "x"}
	for i, c := range []struct {
		list []Item
		want api.Errno
	}{
		{[]Item{{Text: true, N: 1}}, api.ErrArg},
		{[]Item{{Text: true, S: "x", N: -1}}, api.ErrArg},
		{[]Item{{S: "x"}}, api.ErrArg},
		{[]Item{{N: 4, S: "\x00"}}, api.ErrArg},
		{[]Item{{N: 4}, {Text: true, S: "right"}, {S: "x"}}, api.ErrArg},
		{tooMany, api.ErrLong},
		{mixed(2 * api.MaxItems), api.ErrLong},
		{wrongToo, api.ErrArg},
	} {
		if b, e := Items(c.list); len(b) != 0 || e != c.want {
			t.Errorf("case %d: %x %v, want %v", i, b, e, c.want)
		}
	}
}

// P1.2, R5: Read refuses what isn't the bytes of at most MaxItems items.
func TestReadErrors(t *testing.T) {
	right, _ := Items([]Item{{N: 300}, {Text: true, S: "ab"}})
	wrong := []string{
		"\x00\x00", "\x01\xff", "\x01\x00", "\x09", "\x02\x00\x01\x01\x00",
		"\x01\x01\x00\x00", "\x01\x01\x03\x00", "\x01\x01\xff\x00",
		"\x01\x01\x01\x09", "\x01\x01\x01\x01\x00", "\x01\x01\x01\x02\x00\x01",
		"\x01\x01\x02\x01\xff", "\x01\x01\x02\x01\x02a",
		"\x01\x01\x02\x08\x7f\xff\xff\xff\xff\xff\xff\xff",
		"\x02\x0f\xa1" + strings.Repeat("\x01\x00", api.MaxItems+1),
		"\x08\x7f\xff\xff\xff\xff\xff\xff\xff\x01\x00",
		"\x08\x80\x00\x00\x00\x00\x00\x00\x00",
		"\x05\x01\x00\x00\x00\x00",
		string(right) + "x", string(right) + "\x00", "\x01\x01" + string(right[2:]), "\x01\x03" + string(right[2:]),
	}
	for i := range right {
		wrong = append(wrong, string(right[:i]))
	}
	for _, s := range wrong {
		if list, e := Read([]byte(s)); len(list) != 0 || e != api.ErrForm {
			t.Errorf("Read(%.40x): %v %v", s, list, e)
		}
	}
	if list, e := Read(nil); len(list) != 0 || e != api.ErrForm {
		t.Error(list, e)
	}
}

// P1.2, R1: whatever one byte is put at whatever place, Read ends, and what it answers has just these bytes.
func TestReadOfChangedBytes(t *testing.T) {
	right, _ := Items([]Item{{N: -129}, {Text: true, S: "ab"}, {}, {Text: true}, {N: 7}})
	for i := range right {
		for c := range 256 {
			b := bytes.Clone(right)
			b[i] = byte(c)
			list, e := Read(b)
			if e != api.OK {
				if len(list) != 0 || e != api.ErrForm {
					t.Errorf("Read(%x): %v %v", b, list, e)
				}
				continue
			}
			if again, e := Items(list); !bytes.Equal(again, b) || e != api.OK {
				t.Errorf("Read(%x): %v, whose bytes are %x %v", b, list, again, e)
			}
		}
	}
}

// roomy is a list with bytes in its spare room, and all of that memory.
func roomy(s string) (list, all []byte) {
	all = append([]byte(s), bytes.Repeat([]byte{0xaa}, 64)...)
	return all[:len(s)], all
}

// R3: Number and Text leave what is handed in as it is, its spare room too, and answer new memory.
func TestWritingIsNewMemory(t *testing.T) {
	for name, write := range map[string]func(b []byte) []byte{
		"Number":     func(b []byte) []byte { return Number(b, 300) },
		"Number 0":   func(b []byte) []byte { return Number(b, 0) },
		"Text":       func(b []byte) []byte { return Text(b, "text") },
		"Text empty": func(b []byte) []byte { return Text(b, "") },
	} {
		for _, s := range []string{"", "ahead"} {
			b, all := roomy(s)
			kept := bytes.Clone(all)
			got := write(b)
			want := bytes.Clone(got)
			if !bytes.Equal(all, kept) {
				t.Errorf("%s wrote into what was handed in: %x", name, all)
			}
			second := write(b)
			room := second[:cap(second)]
			for i := range room {
				room[i] = 0x55
			}
			if !bytes.Equal(all, kept) || !bytes.Equal(got, want) {
				t.Errorf("%s: its answer shares memory", name)
			}
			for i := range all {
				all[i] = 0x33
			}
			if !bytes.Equal(got, want) {
				t.Errorf("%s: its answer is what was handed in", name)
			}
		}
	}
}

// R3: the calls that take leave what is handed in as it is, and keep nothing of it.
func TestTakingIsNewMemory(t *testing.T) {
	b, all := roomy("\x01\x02ab")
	kept := bytes.Clone(all)
	n, _, _ := TakeNumber(b)
	s, _, _ := TakeText(b)
	if !bytes.Equal(all, kept) {
		t.Errorf("what was handed in was changed: %x", all)
	}
	clear(all)
	if n != 2 || s != "ab" {
		t.Errorf("%d %q", n, s)
	}
}

// R3: Items and Read leave what is handed in as it is, and answer new memory each time.
func TestItemsAndReadAreNewMemory(t *testing.T) {
	allItems := []Item{{N: 1}, {Text: true, S: "ab"}, {N: 9, S: "spare"}}
	keptItems := slices.Clone(allItems)
	first, _ := Items(allItems[:2])
	second, _ := Items(allItems[:2])
	want := bytes.Clone(first)
	clear(second[:cap(second)])
	if !slices.Equal(allItems, keptItems) || !bytes.Equal(first, want) {
		t.Error("Items shares memory")
	}
	b, all := roomy(string(want))
	kept := bytes.Clone(all)
	list, _ := Read(b)
	other, _ := Read(b)
	if !bytes.Equal(all, kept) {
		t.Errorf("Read changed what was handed in: %x", all)
	}
	clear(other[:cap(other)])
	clear(all)
	if !slices.Equal(list, keptItems[:2]) {
		t.Errorf("Read shares memory: %v", list)
	}
}

// R2, R4: the same arguments, the same answer; nil and empty mean the same.
func TestSameArgumentsSameAnswer(t *testing.T) {
	if !bytes.Equal(Number(nil, 5), Number([]byte{}, 5)) || !bytes.Equal(Text(nil, "x"), Text([]byte{}, "x")) {
		t.Error("nil and empty differ")
	}
	for range 3 {
		b, _ := Items(mixed(50))
		c, _ := Items(mixed(50))
		l, _ := Read(b)
		m, _ := Read(b)
		if !bytes.Equal(b, c) || !slices.Equal(l, m) {
			t.Error("two answers differ")
		}
	}
}

// R1: no call panics, at any short bytes.
func TestNoPanic(t *testing.T) {
	for x := range 1 << 16 {
		b := []byte{byte(x >> 8), byte(x)}
		for _, s := range [][]byte{b[:1], b, append([]byte{1, 1}, b...), append([]byte{1, 2, 1, 0}, b...)} {
			TakeNumber(s)
			TakeText(s)
			Read(s)
		}
	}
}
