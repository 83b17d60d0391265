// Package pack is layer 1: numbers and texts as bytes (shared/doc/01-pack.md).
package pack

import (
	"tumbrel/api"
)

// Item is a number (N), or a text (S) if Text is set.
type Item struct {
	Text bool
	N    int64
	S    string
}

// The first byte of an item's bytes, and the most bytes that tell a number.
const (
	numberItem = 1
	textItem   = 2
	mostBytes  = 8
)

// Number answers b and, behind it, n's bytes.
func Number(b []byte, n int64) []byte {
	return addNumber(copied(b, 1+mostBytes), n)
}

// Text answers b and, behind it, s's bytes.
func Text(b []byte, s string) []byte {
	return addText(copied(b, 1+mostBytes+len(s)), s)
}

// TakeNumber answers the number whose bytes b begins with, and how many these are.
func TakeNumber(b []byte) (int64, int, api.Errno) {
	if len(b) == 0 {
		return 0, 0, api.ErrNone
	}
	if b[0] > mostBytes {
		return 0, 0, api.ErrForm
	}
	end := 1 + int(b[0])
	if len(b) < end {
		return 0, 0, api.ErrNone
	}
	n := signed(b[1:end])
	if 1+width(n) != end {
		return 0, 0, api.ErrForm
	}
	return n, end, api.OK
}

// TakeText answers the text whose bytes b begins with, and how many these are.
func TakeText(b []byte) (string, int, api.Errno) {
	size, start, e := TakeNumber(b)
	if e != api.OK {
		return "", 0, e
	}
	if size < 0 {
		return "", 0, api.ErrForm
	}
	// The size is held against what is there, not added to it: the sum could wrap round.
	if size > int64(len(b)-start) {
		return "", 0, api.ErrNone
	}
	end := start + int(size)
	return string(b[start:end]), end, api.OK
}

// Items answers the bytes of the list.
func Items(list []Item) ([]byte, api.Errno) {
	for _, it := range list {
		if it.Text && it.N != 0 || !it.Text && it.S != "" {
			return nil, api.ErrArg
		}
	}
	if len(list) > api.MaxItems {
		return nil, api.ErrLong
	}
	b := addNumber(nil, int64(len(list)))
	for _, it := range list {
		b = addItem(b, it)
	}
	return b, api.OK
}

// Read answers the items whose bytes b is.
func Read(b []byte) ([]Item, api.Errno) {
	count, at, e := TakeNumber(b)
	if e != api.OK || count < 0 || count > api.MaxItems {
		return nil, api.ErrForm
	}
	list := make([]Item, 0, int(count))
	for range count {
		it, size, ok := takeItem(b[at:])
		if !ok {
			return nil, api.ErrForm
		}
		list = append(list, it)
		at += size
	}
	if at != len(b) {
		return nil, api.ErrForm
	}
	return list, api.OK
}

// copied is new memory with b's bytes and room for more: appending to b itself would write into the caller's spare room.
func copied(b []byte, room int) []byte {
	return append(make([]byte, 0, len(b)+room), b...)
}

// addNumber appends in place, so only for memory of our own.
func addNumber(b []byte, n int64) []byte {
	w := width(n)
	b = append(b, byte(w))
	for i := w - 1; i >= 0; i-- {
		b = append(b, byte(n>>(8*i)))
	}
	return b
}

// addText appends in place, so only for memory of our own.
func addText(b []byte, s string) []byte {
	return append(addNumber(b, int64(len(s))), s...)
}

// addItem appends in place, so only for memory of our own.
func addItem(b []byte, it Item) []byte {
	if it.Text {
		return addText(append(b, textItem), it.S)
	}
	return addNumber(append(b, numberItem), it.N)
}

// takeItem answers the item whose bytes b begins with, how many these are, and if there is one: Read makes one error of all.
func takeItem(b []byte) (Item, int, bool) {
	if len(b) == 0 {
		return Item{}, 0, false
	}
	var it Item
	var size int
	var e api.Errno
	switch b[0] {
	case numberItem:
		it.N, size, e = TakeNumber(b[1:])
	case textItem:
		it.Text = true
		it.S, size, e = TakeText(b[1:])
	default:
		return Item{}, 0, false
	}
	if e != api.OK {
		return Item{}, 0, false
	}
	return it, 1 + size, true
}

// width is the least count of bytes that tell n: 0 needs none, and any other number needs room for its sign.
func width(n int64) int {
	if n == 0 {
		return 0
	}
	w := 1
	for w < mostBytes && n>>(8*w-1) != 0 && n>>(8*w-1) != -1 {
		w++
	}
	return w
}

// signed is the number of at most eight bytes in two's complement, the highest first.
func signed(b []byte) int64 {
	var n int64
	if len(b) > 0 && b[0] >= 0x80 {
		n = -1
	}
	for _, c := range b {
		n = n<<8 | int64(c)
	}
	return n
}
