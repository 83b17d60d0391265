package links

import (
	"bytes"
	"math"
	"slices"
	"strconv"
	"strings"
	"testing"

	"tumbrel/api"
)

// noParties are numbers of which none is a party's, however many these are.
var noParties = []int{math.MinInt, math.MinInt32, -100, -1, 100, 101, 1 << 32, 1<<32 + 1, math.MaxInt32, math.MaxInt}

// send lays letters, one a text, on a link.
func send(t *testing.T, l *Links, from, to int, letters ...string) {
	t.Helper()
	for _, s := range letters {
		if e := l.Send(from, to, []byte(s)); e != api.OK {
			t.Error("Send", from, to, s, e)
		}
	}
}

// line answers a link's letters, the first one ahead, as Peek tells them.
func line(l *Links, from, to int) []string {
	var letters []string
	for b, ok := l.Peek(from, to, 0); ok; b, ok = l.Peek(from, to, len(letters)) {
		letters = append(letters, string(b))
	}
	return letters
}

// holds tells what is wrong with a link that is to have just these letters.
func holds(t *testing.T, name string, l *Links, from, to int, letters ...string) {
	t.Helper()
	if n := l.Count(from, to); n != len(letters) {
		t.Error(name, "Count", n, "not", len(letters))
	}
	if now := line(l, from, to); !slices.Equal(now, letters) {
		t.Errorf("%s: %q, not %q", name, now, letters)
	}
	for _, at := range []int{len(letters), len(letters) + 1, -1, math.MinInt, math.MaxInt} {
		if b, ok := l.Peek(from, to, at); len(b) != 0 || ok {
			t.Error(name, "Peek", at, b, ok)
		}
	}
}

// takes has the link's letter at that place taken, and tells if it isn't the one it is to be.
func takes(t *testing.T, l *Links, from, to, at int, letter string) {
	t.Helper()
	if b, ok := l.Take(from, to, at); string(b) != letter || !ok {
		t.Errorf("Take %d %d %d: %q %t, not %q", from, to, at, b, ok, letter)
	}
}

// full answers links of three parties with as many letters as there may be, on three of the links.
func full(t *testing.T) *Links {
	t.Helper()
	l := New(3)
	for i := range api.MaxLetters {
		send(t, l, i%3, (i+1)%3, strconv.Itoa(i))
	}
	return l
}

// P17.1: the chapter's example.
func TestExample(t *testing.T) {
	l := New(2)
	send(t, l, 0, 1, "a", "b")
	if !l.Turn(0, 1) {
		t.Error("Turn")
	}
	takes(t, l, 0, 1, 0, "b")
	holds(t, "behind it", l, 0, 1, "a")
}

// P17.1: New has no letters on any link, and as many parties as it is told, from 0 to 100.
func TestNew(t *testing.T) {
	for asked, parties := range map[int]int{
		math.MinInt: 0, -1: 0, 0: 0, 1: 1, 2: 2, 5: 5, 99: 99, 100: 100, 101: 100, 1000: 100, 1 << 32: 100, 1<<32 + 5: 100, math.MaxInt: 100,
	} {
		l := New(asked)
		if l.Total() != 0 {
			t.Error(asked, "Total", l.Total())
		}
		for n := range 102 {
			for _, to := range []int{0, 1, n - 1, n + 1, 50, 99, 100} {
				there := n < parties && to >= 0 && to < parties && n != to
				for _, pair := range [][2]int{{n, to}, {to, n}} {
					holds(t, "New", l, pair[0], pair[1])
					e := l.Send(pair[0], pair[1], []byte("a"))
					if there && e != api.OK || !there && e != api.ErrNone {
						t.Error(asked, pair, e)
					}
					if there {
						takes(t, l, pair[0], pair[1], 0, "a")
					}
				}
			}
		}
	}
}

// P17.1: Send's letter is the last one of its link, and of no other one: a link goes one way.
func TestSend(t *testing.T) {
	l := New(4)
	for round := range 3 {
		for from := range 4 {
			for to := range 4 {
				if from != to {
					send(t, l, from, to, strconv.Itoa(from*100+to*10+round))
				}
			}
		}
	}
	if l.Total() != 36 {
		t.Error("Total", l.Total())
	}
	for from := range 4 {
		for to := range 4 {
			n := from*100 + to*10
			if from != to {
				holds(t, "each", l, from, to, strconv.Itoa(n), strconv.Itoa(n+1), strconv.Itoa(n+2))
			} else {
				holds(t, "itself", l, from, to)
			}
		}
	}
}

// P17.1: a letter may be any bytes, none and very many too.
func TestSendAnyBytes(t *testing.T) {
	l := New(2)
	letters := []string{"", "\x00", "\xff\xfe", "я", strings.Repeat("a", 1<<20), "", "a\x00"}
	send(t, l, 1, 0, letters...)
	if e := l.Send(1, 0, nil); e != api.OK {
		t.Error("nil", e)
	}
	holds(t, "any", l, 1, 0, append(letters, "")...)
	for _, s := range letters {
		takes(t, l, 1, 0, 0, s)
	}
	takes(t, l, 1, 0, 0, "")
	if b, ok := l.Take(1, 0, 0); len(b) != 0 || ok {
		t.Error(b, ok)
	}
}

// P17.1: Send to or from what is no party, or from one to itself, is ErrNone, also if there are MaxLetters (R6); it changes nothing (R5).
func TestSendNone(t *testing.T) {
	l := full(t)
	few := New(3)
	send(t, few, 0, 1, "a")
	for _, x := range []*Links{l, few} {
		total, letters := x.Total(), line(x, 0, 1)
		for _, n := range append([]int{3, 4, 99}, noParties...) {
			for other := range 3 {
				if e := x.Send(n, other, []byte("b")); e != api.ErrNone {
					t.Error(n, other, e)
				}
				if e := x.Send(other, n, []byte("b")); e != api.ErrNone {
					t.Error(other, n, e)
				}
			}
			if e := x.Send(n, n, []byte("b")); e != api.ErrNone {
				t.Error(n, n, e)
			}
		}
		for n := range 3 {
			if e := x.Send(n, n, nil); e != api.ErrNone {
				t.Error(n, n, e)
			}
		}
		holds(t, "left", x, 0, 1, letters...)
		if x.Total() != total {
			t.Error("Total", x.Total(), "not", total)
		}
	}
}

// P17.1: there are MaxLetters in all, on one link or on many; then Send and Double are ErrFull, till a letter is gone.
func TestFull(t *testing.T) {
	one := New(2)
	for i := range api.MaxLetters {
		if one.Total() != i {
			t.Error("Total", one.Total(), "not", i)
		}
		send(t, one, 0, 1, strconv.Itoa(i))
	}
	for _, l := range []*Links{one, full(t)} {
		before := line(l, 0, 1)
		if e := l.Send(0, 1, nil); e != api.ErrFull {
			t.Error("Send", e)
		}
		if e := l.Send(1, 0, []byte("a")); e != api.ErrFull {
			t.Error("Send", e)
		}
		if e := l.Double(0, 1, 0); e != api.ErrFull {
			t.Error("Double", e)
		}
		if e := l.Double(0, 1, len(before)); e != api.ErrNone {
			t.Error("Double of none", e)
		}
		if !l.Turn(0, 1) {
			t.Error("Turn")
		}
		before = append(before[1:], before[0])
		holds(t, "full", l, 0, 1, before...)
		if l.Total() != api.MaxLetters {
			t.Error("Total", l.Total())
		}
		takes(t, l, 0, 1, 1, before[1])
		if e := l.Double(0, 1, 0); e != api.OK {
			t.Error("Double", e)
		}
		if e := l.Double(0, 1, 0); e != api.ErrFull {
			t.Error("Double", e)
		}
		takes(t, l, 0, 1, 0, before[0])
		send(t, l, 1, 0, "new")
		if e := l.Send(1, 0, nil); e != api.ErrFull {
			t.Error("Send", e)
		}
		holds(t, "behind it", l, 0, 1, append(slices.Clone(before[2:]), before[0])...)
	}
}

// P17.1: Peek answers each letter by its place, and takes none.
func TestPeek(t *testing.T) {
	l := New(3)
	send(t, l, 0, 1, "a", "b", "a", "c")
	send(t, l, 0, 2, "x")
	for range 3 {
		for at, want := range []string{"a", "b", "a", "c"} {
			if b, ok := l.Peek(0, 1, at); string(b) != want || !ok {
				t.Error(at, string(b), ok)
			}
		}
	}
	holds(t, "behind it", l, 0, 1, "a", "b", "a", "c")
	holds(t, "the other one", l, 0, 2, "x")
	if l.Total() != 5 {
		t.Error("Total", l.Total())
	}
}

// P17.1: Take's letter is gone, those behind it are a place nearer, and other links are as they were.
func TestTake(t *testing.T) {
	letters := []string{"a", "b", "c", "d", "e"}
	for at, want := range letters {
		l := New(3)
		for _, s := range letters {
			send(t, l, 2, 1, s)
			send(t, l, 1, 2, s+s)
			send(t, l, 2, 0, s+s+s)
		}
		takes(t, l, 2, 1, at, want)
		holds(t, "taken", l, 2, 1, slices.Delete(slices.Clone(letters), at, at+1)...)
		holds(t, "back", l, 1, 2, "aa", "bb", "cc", "dd", "ee")
		holds(t, "beside", l, 2, 0, "aaa", "bbb", "ccc", "ddd", "eee")
		if l.Total() != 14 {
			t.Error("Total", l.Total())
		}
		send(t, l, 2, 1, "f")
		takes(t, l, 2, 1, 4, "f")
	}
}

// P17.1: Double's letter is alike the one it is of, and the last one of its link; each of both is taken for itself.
func TestDouble(t *testing.T) {
	letters := []string{"a", "b", "c"}
	for at, want := range letters {
		l := New(2)
		send(t, l, 0, 1, letters...)
		send(t, l, 1, 0, "x")
		if e := l.Double(0, 1, at); e != api.OK {
			t.Error(at, e)
		}
		holds(t, "doubled", l, 0, 1, "a", "b", "c", want)
		holds(t, "back", l, 1, 0, "x")
		if l.Total() != 5 {
			t.Error("Total", l.Total())
		}
		if e := l.Double(0, 1, 3); e != api.OK {
			t.Error(at, e)
		}
		holds(t, "twice", l, 0, 1, "a", "b", "c", want, want)
		takes(t, l, 0, 1, at, want)
		takes(t, l, 0, 1, 2, want)
		takes(t, l, 0, 1, 2, want)
		holds(t, "rest", l, 0, 1, slices.Delete(slices.Clone(letters), at, at+1)...)
	}
}

// P17.1: Turn has the first letter be the last one, the others in their order, and no other link's moved.
func TestTurn(t *testing.T) {
	l := New(3)
	if l.Turn(0, 1) {
		t.Error("of none")
	}
	send(t, l, 0, 1, "a")
	send(t, l, 1, 0, "x", "y")
	send(t, l, 0, 2, "z")
	if l.Turn(0, 1) {
		t.Error("of one")
	}
	holds(t, "one", l, 0, 1, "a")
	send(t, l, 0, 1, "b")
	if !l.Turn(0, 1) {
		t.Error("of two")
	}
	holds(t, "two", l, 0, 1, "b", "a")
	send(t, l, 0, 1, "c")
	for _, want := range [][]string{{"a", "c", "b"}, {"c", "b", "a"}, {"b", "a", "c"}} {
		if !l.Turn(0, 1) {
			t.Error("of three")
		}
		holds(t, "three", l, 0, 1, want...)
	}
	send(t, l, 0, 1, "d")
	holds(t, "sent", l, 0, 1, "b", "a", "c", "d")
	holds(t, "back", l, 1, 0, "x", "y")
	holds(t, "beside", l, 0, 2, "z")
	if l.Total() != 7 {
		t.Error("Total", l.Total())
	}
}

// P17.1: where there is no such link, or no such letter, nothing is answered, and nothing is changed.
func TestNoneThere(t *testing.T) {
	l := New(3)
	send(t, l, 0, 1, "a", "b")
	var pairs [][2]int
	for _, n := range append([]int{3}, noParties...) {
		pairs = append(pairs, [2]int{0, n}, [2]int{n, 1}, [2]int{n, n})
	}
	pairs = append(pairs, [2]int{0, 0}, [2]int{1, 1}, [2]int{2, 2}, [2]int{1, 0}, [2]int{0, 2}, [2]int{2, 1})
	for _, p := range pairs {
		if l.Count(p[0], p[1]) != 0 || l.Turn(p[0], p[1]) {
			t.Error(p, "Count, Turn")
		}
		for _, at := range []int{0, 1, -1, 2, math.MinInt, math.MaxInt} {
			noLetter(t, l, p[0], p[1], at)
		}
	}
	for _, at := range []int{2, 3, -1, -2, math.MinInt, math.MaxInt, 1 << 32, 1<<32 + 1} {
		noLetter(t, l, 0, 1, at)
	}
	holds(t, "left", l, 0, 1, "a", "b")
	if l.Total() != 2 {
		t.Error("Total", l.Total())
	}
}

// noLetter tells what is wrong with calls of a letter that there isn't.
func noLetter(t *testing.T, l *Links, from, to, at int) {
	t.Helper()
	if b, ok := l.Peek(from, to, at); len(b) != 0 || ok {
		t.Error(from, to, at, "Peek", b, ok)
	}
	if b, ok := l.Take(from, to, at); len(b) != 0 || ok {
		t.Error(from, to, at, "Take", b, ok)
	}
	if e := l.Double(from, to, at); e != api.ErrNone {
		t.Error(from, to, at, "Double", e)
	}
}

// P17.1: links of others have nothing to do with these.
func TestApart(t *testing.T) {
	one, other := New(2), New(2)
	send(t, one, 0, 1, "a")
	send(t, other, 0, 1, "b", "c")
	other.Turn(0, 1)
	holds(t, "one", one, 0, 1, "a")
	holds(t, "other", other, 0, 1, "c", "b")
	if b, ok := one.Take(0, 1, 0); !bytes.Equal(b, []byte("a")) || !ok || other.Total() != 2 {
		t.Error(b, ok, other.Total())
	}
}
