package outbox

import (
	"bytes"
	"math"
	"strings"
	"testing"

	"tumbrel/api"
	"tumbrel/pack"
	"tumbrel/seal"
)

// formed are messages that are formed, ordinary ones and those at the bounds.
func formed() []api.Message {
	most := math.MaxInt32
	return []api.Message{
		{Kind: api.Do},
		{Kind: api.Undo},
		{Kind: api.Did},
		{Kind: api.Undid},
		{Kind: api.Did, OK: true},
		{Kind: api.Undid, OK: true},
		{Kind: api.Do, Instance: 1, Turn: 2, Name: "x", Attempt: 1},
		{Kind: api.Undo, Instance: 12, Turn: 300, Name: "unbook", Attempt: 128},
		{Kind: api.Did, Instance: 255, Turn: 256, Name: "é", Attempt: 127, OK: true},
		{Kind: api.Undid, Instance: 65535, Turn: 1 << 23, Name: "\x00\xff\xfe", Attempt: 1<<31 - 2},
		{Kind: api.Do, Instance: most},
		{Kind: api.Do, Turn: most},
		{Kind: api.Do, Attempt: most},
		{Kind: api.Undo, Name: strings.Repeat("a", 200)},
		{Kind: api.Undo, Name: strings.Repeat("é", 100)},
		{Kind: api.Undid, Instance: most, Turn: most, Name: strings.Repeat("\xff", 200), Attempt: most, OK: true},
	}
}

// unformed are messages of each of which one thing keeps it from being formed.
func unformed() []api.Message {
	list := []api.Message{
		{},
		{Kind: api.Do, OK: true},
		{Kind: api.Undo, OK: true},
		{Kind: api.Do, Instance: 1, Turn: 2, Name: "x", Attempt: 1, OK: true},
	}
	for _, kind := range []int{math.MinInt, -1, 0, 5, 6, 1<<8 + 1, 1<<32 + 1, math.MaxInt} {
		list = append(list, api.Message{Kind: kind}, api.Message{Kind: kind, OK: true})
	}
	for _, kind := range []int{api.Do, api.Undo, api.Did, api.Undid} {
		for _, n := range []int{math.MinInt, math.MinInt32, -1, 1 << 31, 1<<31 + 1, 1 << 32, 1<<32 + 1, math.MaxInt} {
			list = append(list, api.Message{Kind: kind, Instance: n}, api.Message{Kind: kind, Turn: n}, api.Message{Kind: kind, Attempt: n})
		}
		for _, name := range []string{strings.Repeat("a", 201), strings.Repeat("é", 101), strings.Repeat("\xff", 1000)} {
			list = append(list, api.Message{Kind: kind, Name: name})
		}
	}
	return list
}

// numberBytes is a number that isn't below 0 as the chapters say it: the byte 1, how many bytes it has, and these.
func numberBytes(n int) string {
	b := ""
	for ; n > 0; n >>= 8 {
		b = string([]byte{byte(n)}) + b
	}
	if b != "" && b[0] >= 0x80 {
		b = "\x00" + b
	}
	return "\x01" + string([]byte{byte(len(b))}) + b
}

// bytesOf is a message's bytes as the chapters say them: 0106 tells that there are six items.
func bytesOf(m api.Message) string {
	ok := 0
	if m.OK {
		ok = 1
	}
	payload := "\x01\x06" + numberBytes(m.Kind) + numberBytes(m.Instance) + numberBytes(m.Turn) +
		"\x02" + numberBytes(len(m.Name))[1:] + m.Name + numberBytes(m.Attempt) + numberBytes(ok)
	b := sealed("", string([]byte{byte(len(payload) >> 8), byte(len(payload))}))
	return sealed(b, payload)
}

// sealed is all, more and the sum of both.
func sealed(all, more string) string {
	all += more
	sum := seal.Sum([]byte(all))
	return all + string([]byte{byte(sum >> 8), byte(sum)})
}

// P18.1: Formed tells which messages are.
func TestFormed(t *testing.T) {
	for _, m := range formed() {
		if !Formed(m) {
			t.Errorf("%+v", m)
		}
	}
	for _, m := range unformed() {
		if Formed(m) {
			t.Errorf("%+v", m)
		}
	}
}

// P18.1: Encode answers a message's bytes, ErrArg and none (R5) if it isn't formed.
func TestEncode(t *testing.T) {
	for _, m := range formed() {
		b, e := Encode(m)
		if string(b) != bytesOf(m) || e != api.OK {
			t.Errorf("%+v: %x %v, not %x", m, b, e, bytesOf(m))
		}
	}
	for _, m := range unformed() {
		if b, e := Encode(m); len(b) != 0 || e != api.ErrArg {
			t.Errorf("%+v: %x %v", m, b, e)
		}
	}
}

// P18.1: the bytes of one message, written out.
func TestEncodeByHand(t *testing.T) {
	b, e := Encode(api.Message{Kind: api.Undo, Instance: 12, Turn: 200, Name: "ab", Attempt: 0})
	payload := "\x01\x06" + "\x01\x01\x02" + "\x01\x01\x0c" + "\x01\x02\x00\xc8" + "\x02\x01\x02ab" + "\x01\x00" + "\x01\x00"
	if e != api.OK || len(b) != len(payload)+6 || b[0] != 0 || b[1] != byte(len(payload)) || string(b[4:len(b)-2]) != payload {
		t.Errorf("%x %v", b, e)
	}
}

// P18.1: Decode answers the message of which Encode's bytes are.
func TestDecode(t *testing.T) {
	for _, m := range formed() {
		if n, e := Decode([]byte(bytesOf(m))); n != m || e != api.OK {
			t.Errorf("%+v, not %+v: %v", n, m, e)
		}
	}
}

// refuses tells if Decode answers other than ErrForm, and a zero message (R5).
func refuses(t *testing.T, name string, b []byte) {
	t.Helper()
	if m, e := Decode(b); m != (api.Message{}) || e != api.ErrForm {
		t.Errorf("%s: %x is %+v, %v", name, b, m, e)
	}
}

// P18.1: bytes that are cut off, that have others behind or ahead of them, or of which one is another, are no message's.
func TestDecodeSpoilt(t *testing.T) {
	for _, m := range formed() {
		b := []byte(bytesOf(m))
		for size := range b {
			refuses(t, "cut off", b[:size])
			refuses(t, "cut ahead", b[size+1:])
		}
		for _, more := range []string{"\x00", "\xff", "\x00\x01", string(b)} {
			refuses(t, "behind", append(bytes.Clone(b), more...))
			refuses(t, "ahead", append([]byte(more+"\x00"), b...))
		}
		for at := range b {
			for by := 1; by < 256; by += 1 + at%3 {
				wrong := bytes.Clone(b)
				wrong[at] ^= byte(by)
				refuses(t, "spoilt", wrong)
			}
		}
	}
	refuses(t, "nil", nil)
	refuses(t, "empty", []byte{})
	refuses(t, "text", []byte("a message"))
	refuses(t, "long", make([]byte, 1<<20))
}

// P18.1: a sealed record of what aren't items, or not the least bytes of some, is no message's.
func TestDecodeNoItems(t *testing.T) {
	for _, payload := range []string{
		"\x00", "\x01", "x", "\x01\x06",
		"\x01\x06\x01\x01\x01\x01\x00\x01\x00\x02\x00\x01\x00",                 // one too few
		"\x01\x06\x01\x01\x01\x01\x00\x01\x00\x02\x00\x01\x00\x01\x00\x01\x00", // one too many
		"\x01\x06\x01\x01\x01\x01\x00\x01\x00\x02\x00\x01\x00\x01\x00\x00",     // a byte behind
		"\x01\x06\x01\x02\x00\x01\x01\x00\x01\x00\x02\x00\x01\x00\x01\x00",     // 1 in two bytes
		"\x01\x06\x01\x01\x01\x01\x01\x00\x01\x00\x02\x00\x01\x00\x01\x00",     // 0 in one byte
		"\x02\x00\x06\x01\x01\x01\x01\x00\x01\x00\x02\x00\x01\x00\x01\x00",     // 6 in two bytes
		"\x01\x06\x03\x01\x01\x01\x00\x01\x00\x02\x00\x01\x00\x01\x00",         // an item of a third kind
	} {
		b, e := seal.Seal([]byte(payload))
		if e != api.OK {
			t.Fatal(e)
		}
		refuses(t, "no items", b)
	}
	b, _ := seal.Seal([]byte("\x01\x06\x01\x01\x01\x01\x00\x01\x00\x02\x00\x01\x00\x01\x00"))
	if m, e := Decode(b); m != (api.Message{Kind: api.Do}) || e != api.OK {
		t.Error("as it is to be", m, e)
	}
}

// record is the sealed record of items.
func record(t *testing.T, list []pack.Item) []byte {
	t.Helper()
	payload, e := pack.Items(list)
	if e != api.OK {
		t.Fatal(e)
	}
	b, e := seal.Seal(payload)
	if e != api.OK {
		t.Fatal(e)
	}
	return b
}

// P18.1: a sealed record of items that tell no formed message is no message's: other numbers than it may have, other kinds of items, other counts of them.
func TestDecodeOtherItems(t *testing.T) {
	plain := func() []pack.Item {
		return []pack.Item{{N: 3}, {N: 1}, {N: 2}, {Text: true, S: "x"}, {N: 1}, {N: 1}}
	}
	want := api.Message{Kind: api.Did, Instance: 1, Turn: 2, Name: "x", Attempt: 1, OK: true}
	if m, e := Decode(record(t, plain())); m != want || e != api.OK {
		t.Error(m, e)
	}
	numbers := map[int][]int64{
		0: {0, 5, -1, 1, 2, 1<<32 + 3, 1<<8 + 3, math.MinInt64, math.MaxInt64}, // 1 and 2 mayn't be with OK
		1: {-1, 1 << 31, 1<<32 + 1, 1 << 63 >> 1, math.MinInt64, math.MaxInt64},
		2: {-1, 1 << 31, 1<<32 + 2, math.MinInt64, math.MaxInt64},
		4: {-1, 1 << 31, 1<<32 + 1, math.MinInt64, math.MaxInt64},
		5: {-1, 2, 3, 255, 256, 1 << 31, 1 << 32, 1<<32 + 1, math.MinInt64, math.MaxInt64},
	}
	for at, list := range numbers {
		for _, n := range list {
			items := plain()
			items[at].N = n
			refuses(t, "number", record(t, items))
		}
	}
	for at := range plain() {
		items := plain()
		if items[at].Text {
			items[at] = pack.Item{N: 1}
		} else {
			items[at] = pack.Item{Text: true, S: "1"}
		}
		refuses(t, "kind", record(t, items))
		refuses(t, "fewer", record(t, append(plain()[:at], plain()[at+1:]...)))
		refuses(t, "first ones", record(t, plain()[:at]))
		for _, more := range []pack.Item{{}, {N: 1}, {Text: true}} {
			refuses(t, "more", record(t, append(append(plain()[:at], more), plain()[at:]...)))
		}
	}
	refuses(t, "one more", record(t, append(plain(), pack.Item{})))
	items := plain()
	items[3].S = strings.Repeat("a", 201)
	refuses(t, "name", record(t, items))
	items[3].S = strings.Repeat("a", 13000)
	refuses(t, "name", record(t, items))
	items[3].S = strings.Repeat("a", 200)
	want.Name = items[3].S
	if m, e := Decode(record(t, items)); m != want || e != api.OK {
		t.Error(m, e)
	}
}

// FuzzDecode: P18.1: what Decode answers is formed, and of it Encode answers the bytes again.
func FuzzDecode(f *testing.F) {
	for _, m := range formed() {
		f.Add([]byte(bytesOf(m)))
	}
	f.Add([]byte{})
	f.Fuzz(func(t *testing.T, b []byte) {
		for _, x := range [][]byte{b, resealed(b)} {
			m, e := Decode(x)
			if e != api.OK {
				refuses(t, "fuzz", x)
				continue
			}
			if again, e := Encode(m); !Formed(m) || e != api.OK || !bytes.Equal(again, x) {
				t.Errorf("%x: %+v %v %x", x, m, e, again)
			}
		}
	})
}

// resealed is the sealed record of b, if it may have one: else chance hardly finds a right sum.
func resealed(b []byte) []byte {
	x, _ := seal.Seal(b)
	return x
}
