package seal

import (
	"bytes"
	"testing"

	"tumbrel/api"
)

// pattern is n bytes that aren't alike, the same ones each time.
func pattern(n int) []byte {
	b := make([]byte, n)
	x := uint32(n) + 1
	for i := range b {
		x = x*1664525 + 1013904223
		b[i] = byte(x >> 24)
	}
	return b
}

// wordsSum is the chapter's sentence on sums, with the bits kept one by one, the highest first.
func wordsSum(b []byte) uint16 {
	var bits [16]bool
	for i := range bits {
		bits[i] = true
	}
	for _, c := range b {
		for i := range 8 {
			bits[i] = bits[i] != (c>>(7-i)&1 == 1)
		}
		for range 8 {
			fell := bits[0]
			copy(bits[:], bits[1:])
			bits[15] = false
			for i := range bits {
				bits[i] = bits[i] != (fell && 0x1021>>(15-i)&1 == 1)
			}
		}
	}
	n := uint16(0)
	for _, bit := range bits {
		n <<= 1
		if bit {
			n++
		}
	}
	return n
}

// wordsSeal is the chapter's sentence on sealed records, of any length from 0 to 65535.
func wordsSeal(payload []byte) []byte {
	b := []byte{byte(len(payload) >> 8), byte(len(payload))}
	sum := wordsSum(b)
	b = append(b, byte(sum>>8), byte(sum))
	b = append(b, payload...)
	sum = wordsSum(b)
	return append(b, byte(sum>>8), byte(sum))
}

// sealed is the record of a payload that can be sealed.
func sealed(t *testing.T, payload []byte) []byte {
	t.Helper()
	b, e := Seal(payload)
	if e != api.OK {
		t.Fatalf("Seal of %d bytes: %v", len(payload), e)
	}
	return b
}

// wantError fails unless Open answers the error, with zeros beside it.
func wantError(t *testing.T, b []byte, want api.Errno) {
	t.Helper()
	if p, n, e := Open(b); len(p) != 0 || n != 0 || e != want {
		t.Errorf("Open of %d bytes: %d bytes of payload, %d, %v; want %v", len(b), len(p), n, e, want)
	}
}

// P2.1: sums that were worked out elsewhere.
func TestSumKnown(t *testing.T) {
	for s, want := range map[string]uint16{
		"":          0xffff,
		"\x00":      0xe1f0,
		"A":         0xb915,
		"\xff":      0xff00,
		"\xff\xff":  0x0000,
		"\x00\x00":  0x1d0f,
		"123456789": 0x29b1,
	} {
		if got := Sum([]byte(s)); got != want {
			t.Errorf("Sum(%q) = %04x, want %04x", s, got, want)
		}
	}
	if got := Sum(nil); got != 0xffff {
		t.Errorf("Sum(nil) = %04x", got)
	}
	if got := Sum(bytes.Repeat([]byte("A"), 256)); got != 0xea0b {
		t.Errorf("Sum of 256 times A = %04x", got)
	}
}

// P2.1: Sum is the sentence on it, for every byte alone, and for many.
func TestSumByTheWords(t *testing.T) {
	for c := range 256 {
		for _, b := range [][]byte{{byte(c)}, {byte(c), 0}, {0, byte(c)}} {
			if got := Sum(b); got != wordsSum(b) {
				t.Errorf("Sum(%x) = %04x, want %04x", b, got, wordsSum(b))
			}
		}
	}
	for _, n := range []int{2, 3, 7, 8, 255, 256, 257, 1000, api.MaxRecord, api.MaxRecord + 6, 70000} {
		b := pattern(n)
		if got := Sum(b); got != wordsSum(b) {
			t.Errorf("Sum of %d bytes = %04x, want %04x", n, got, wordsSum(b))
		}
	}
}

// P2.1: a sealed record is its length and sum, its payload, and the sum of all that.
func TestSeal(t *testing.T) {
	a := sealed(t, []byte("a"))
	if len(a) != 7 || a[0] != 0 || a[1] != 1 || a[4] != 'a' {
		t.Errorf("%x", a)
	}
	for _, n := range []int{1, 2, 3, 255, 256, 257, 1999, 2000, api.MaxRecord - 1, api.MaxRecord} {
		for _, payload := range [][]byte{pattern(n), make([]byte, n)} {
			if got := sealed(t, payload); !bytes.Equal(got, wordsSeal(payload)) {
				t.Errorf("Seal of %d bytes isn't the record: it begins with %x", n, got[:7])
			}
		}
	}
}

// P2.1, R4, R5: what can't be sealed.
func TestSealErrors(t *testing.T) {
	for _, payload := range [][]byte{nil, {}} {
		if b, e := Seal(payload); len(b) != 0 || e != api.ErrArg {
			t.Errorf("%x %v", b, e)
		}
	}
	for _, n := range []int{api.MaxRecord + 1, 65535, 65536, 65537, 65536 + api.MaxRecord} {
		if b, e := Seal(make([]byte, n)); len(b) != 0 || e != api.ErrLong {
			t.Errorf("%d bytes: %d bytes, %v", n, len(b), e)
		}
	}
}

// P2.1: Open answers what was sealed, whatever stands behind it.
func TestOpen(t *testing.T) {
	for _, n := range []int{1, 2, 3, 255, 256, 257, api.MaxRecord - 1, api.MaxRecord} {
		payload := pattern(n)
		b := sealed(t, payload)
		for _, behind := range [][]byte{nil, {0}, {1, 2}, b, make([]byte, 20000)} {
			p, size, e := Open(append(bytes.Clone(b), behind...))
			if !bytes.Equal(p, payload) || size != len(b) || size != n+6 || e != api.OK {
				t.Errorf("%d bytes, %d behind: %d bytes of payload, %d, %v", n, len(behind), len(p), size, e)
			}
		}
	}
}

// P2.1: by what Open answers, records that stand behind one another are gone through.
func TestOpenOneBehindAnother(t *testing.T) {
	var b []byte
	texts := []string{"a", "bc", string(pattern(300)), "\x00"}
	for _, s := range texts {
		b = append(b, sealed(t, []byte(s))...)
	}
	for _, s := range texts {
		p, n, e := Open(b)
		if string(p) != s || e != api.OK {
			t.Fatalf("%q: %q %d %v", s, p, n, e)
		}
		b = b[n:]
	}
	wantError(t, b, api.ErrNone)
}

// P2.1, R4, R5, R6: each error of Open, in the order of the sentence.
func TestOpenErrors(t *testing.T) {
	wantError(t, nil, api.ErrNone)
	wantError(t, []byte{}, api.ErrNone)
	// Fewer than four bytes are asked of ahead of what they tell.
	for _, b := range [][]byte{{0}, {0, 0}, {0xff, 0xff}, {0, 0, 0x1d}, {0xff, 0xff, 0xff}} {
		wantError(t, b, api.ErrNone)
	}
	// A length that can't be is wrong, though all sums are right, and whether the record ends or not.
	for _, n := range []int{0, api.MaxRecord + 1, 65535} {
		b := wordsSeal(make([]byte, n))
		wantError(t, b, api.ErrBad)
		wantError(t, b[:4], api.ErrBad)
		wantError(t, append(b, make([]byte, 70000)...), api.ErrBad)
	}
	good := sealed(t, []byte("abc"))
	// The first sum is asked of ahead of the record's end.
	for _, at := range []int{2, 3} {
		b := bytes.Clone(good[:4])
		b[at] ^= 1
		wantError(t, b, api.ErrBad)
	}
	// The end is asked of ahead of the last sum.
	b := bytes.Clone(good)
	b[4] ^= 1
	wantError(t, b[:len(b)-1], api.ErrNone)
	wantError(t, b, api.ErrBad)
	// The last sum is of all that is ahead, not of the payload alone.
	sum := Sum([]byte("abc"))
	wantError(t, append(bytes.Clone(good[:7]), byte(sum>>8), byte(sum)), api.ErrBad)
}

// P2.2: a record of which one byte is another isn't opened, at every place and with every other byte.
func TestOneByteIsAnother(t *testing.T) {
	for _, n := range []int{1, 2, 3, 40, 300} {
		b := sealed(t, pattern(n))
		more := append(bytes.Clone(b), make([]byte, 20000)...)
		for at := range b {
			for x := 1; x < 256; x++ {
				b[at] ^= byte(x)
				if p, size, e := Open(b); len(p) != 0 || size != 0 || e != api.ErrBad {
					t.Errorf("%d bytes, byte %d xored with %02x: %d %d %v", n, at, x, len(p), size, e)
				}
				b[at] ^= byte(x)
			}
			more[at] ^= 0x41
			wantError(t, more, api.ErrBad)
			more[at] ^= 0x41
		}
	}
}

// P2.2: so it is in the longest record.
func TestOneByteIsAnotherInTheLongest(t *testing.T) {
	b := sealed(t, pattern(api.MaxRecord))
	for at := 0; at < len(b); at += 97 {
		b[at] ^= 0x80
		wantError(t, b, api.ErrBad)
		b[at] ^= 0x80
	}
	for at := len(b) - 8; at < len(b); at++ {
		b[at] ^= 1
		wantError(t, b, api.ErrBad)
		b[at] ^= 1
	}
}

// P2.2: cut off anywhere, a record is ErrNone.
func TestCutOff(t *testing.T) {
	for _, n := range []int{1, 2, 255, 256, api.MaxRecord} {
		b := sealed(t, pattern(n))
		for size := range b {
			// The memory behind the cut holds the rest: Open mustn't look at it.
			wantError(t, b[:size], api.ErrNone)
		}
	}
}

// R3: what is handed in is left as it is, its spare room too.
func TestInputsStay(t *testing.T) {
	room := bytes.Repeat([]byte{0xee}, 64)
	copy(room, "abc")
	before := bytes.Clone(room)
	Sum(room[:3])
	Seal(room[:3])
	Open(room[:3])
	if !bytes.Equal(room, before) {
		t.Errorf("%x", room)
	}
	copy(room, sealed(t, []byte("abc")))
	before = bytes.Clone(room)
	Open(room[:9])
	Open(room[:8])
	if !bytes.Equal(room, before) {
		t.Errorf("%x", room)
	}
}

// filled writes over the list and its spare room.
func filled(b []byte) {
	b = b[:cap(b)]
	for i := range b {
		b[i] = 0x77
	}
}

// R2, R3: an answer is new memory, its spare room too, and nothing is kept from call to call.
func TestAnswersAreNew(t *testing.T) {
	room := make([]byte, 64)
	copy(room, "abc")
	first := sealed(t, room[:3])
	want := bytes.Clone(first)
	filled(room)
	if !bytes.Equal(first, want) {
		t.Errorf("%x", first)
	}
	second := sealed(t, []byte("abc"))
	filled(first)
	if !bytes.Equal(second, want) || !bytes.Equal(sealed(t, []byte("abc")), want) {
		t.Errorf("%x", second)
	}
	room = append(make([]byte, 0, 64), second...)
	before := bytes.Clone(room[:64])
	p, _, _ := Open(room)
	filled(p)
	if !bytes.Equal(room[:64], before) {
		t.Errorf("%x", room[:64])
	}
	p, _, _ = Open(room)
	filled(room)
	if string(p) != "abc" {
		t.Errorf("%q", p)
	}
}

// R1: no call panics, whatever bytes it is given.
func FuzzOpen(f *testing.F) {
	f.Add([]byte("\x00\x01"))
	f.Add(wordsSeal([]byte("abc")))
	f.Add(wordsSeal(nil))
	f.Fuzz(func(t *testing.T, b []byte) {
		p, n, e := Open(b)
		if e != api.OK {
			if len(p) != 0 || n != 0 || e != api.ErrNone && e != api.ErrBad {
				t.Errorf("%x: %x %d %v", b, p, n, e)
			}
			return
		}
		if again := sealed(t, p); n != len(again) || !bytes.Equal(again, b[:n]) {
			t.Errorf("%x: %x %d", b, p, n)
		}
	})
}
