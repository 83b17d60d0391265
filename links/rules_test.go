package links

import (
	"bytes"
	"math"
	"strconv"
	"testing"

	"tumbrel/api"
)

// dice are numbers that aren't alike, the same ones each time.
type dice uint32

func (d *dice) upTo(n int) int {
	*d = *d*1664525 + 1013904223
	return int(*d>>8) % n
}

// party is mostly one of few numbers, or one at the edges.
func (d *dice) party(parties int) int {
	edges := []int{math.MinInt, math.MaxInt, -1, parties, parties + 1, 1 << 32}
	if d.upTo(30) > 0 {
		return d.upTo(max(parties, 1))
	}
	return edges[d.upTo(len(edges))]
}

// place is mostly near the first one, or one at the edges.
func (d *dice) place() int {
	edges := []int{math.MinInt, math.MaxInt, -1, 1 << 32, 99, 100}
	if d.upTo(10) > 0 {
		return d.upTo(5)
	}
	return edges[d.upTo(len(edges))]
}

// words is the chapter's sentences on links: each link is a channel of letters, gone round to ask it.
type words struct {
	parties int
	lines   map[[2]int]chan string
}

func newWords(parties int) *words {
	w := &words{parties: min(max(parties, 0), 100), lines: map[[2]int]chan string{}}
	for from := range w.parties {
		for to := range w.parties {
			if from != to {
				w.lines[[2]int{from, to}] = make(chan string, 101)
			}
		}
	}
	return w
}

func (w *words) total() int {
	n := 0
	for _, c := range w.lines {
		n += len(c)
	}
	return n
}

func (w *words) send(from, to int, b string) api.Errno {
	c, ok := w.lines[[2]int{from, to}]
	if !ok {
		return api.ErrNone
	}
	if w.total() >= 100 {
		return api.ErrFull
	}
	c <- b
	return api.OK
}

// ask goes round the link once, and leaves out its letter at that place, if it is to be taken.
func (w *words) ask(from, to, at int, take bool) (string, bool) {
	c := w.lines[[2]int{from, to}]
	found, ok := "", false
	for i := range len(c) {
		s := <-c
		if i == at {
			found, ok = s, true
		}
		if i != at || !take {
			c <- s
		}
	}
	return found, ok
}

func (w *words) double(from, to, at int) api.Errno {
	s, ok := w.ask(from, to, at, false)
	if !ok {
		return api.ErrNone
	}
	return w.send(from, to, s)
}

func (w *words) turn(from, to int) bool {
	c := w.lines[[2]int{from, to}]
	if len(c) < 2 {
		return false
	}
	c <- <-c
	return true
}

// alike tells what links and the words answer otherwise of one link, asked what changes nothing.
func alike(t *testing.T, l *Links, w *words, from, to int) {
	t.Helper()
	n := len(w.lines[[2]int{from, to}])
	if l.Count(from, to) != n || l.Total() != w.total() {
		t.Fatal("Count, Total", from, to, l.Count(from, to), n, l.Total(), w.total())
	}
	for at := -1; at <= n; at++ {
		b, ok := l.Peek(from, to, at)
		if s, there := w.ask(from, to, at, false); string(b) != s || ok != there {
			t.Fatalf("Peek %d %d %d: %q %t, not %q %t", from, to, at, b, ok, s, there)
		}
	}
}

// step does one thing to links and to the words, and tells what they answer otherwise.
func step(t *testing.T, l *Links, w *words, d *dice, from, to int, much int) {
	t.Helper()
	switch kind := d.upTo(10); {
	case kind < much:
		s := strconv.Itoa(d.upTo(1000))
		if e, want := l.Send(from, to, []byte(s)), w.send(from, to, s); e != want {
			t.Fatal("Send", from, to, e, want)
		}
	case kind == 7:
		at := d.place()
		if e, want := l.Double(from, to, at), w.double(from, to, at); e != want {
			t.Fatal("Double", from, to, at, e, want)
		}
	case kind == 8:
		if ok, want := l.Turn(from, to), w.turn(from, to); ok != want {
			t.Fatal("Turn", from, to, ok, want)
		}
	default:
		at := d.place()
		b, ok := l.Take(from, to, at)
		if s, want := w.ask(from, to, at, true); string(b) != s || ok != want {
			t.Fatalf("Take %d %d %d: %q %t, not %q %t", from, to, at, b, ok, s, want)
		}
	}
}

// P17.1: long ways of calls answer what the chapter's words do, few letters under way or as many as there may be.
func TestByTheWords(t *testing.T) {
	for way := range 120 {
		d := dice(way)
		parties := []int{2, 3, 5, 1, 0, -1, 4, 12}[way%8]
		much := []int{3, 5, 7}[way%3]
		l, w := New(parties), newWords(parties)
		for range 400 {
			from, to := d.party(parties), d.party(parties)
			step(t, l, w, &d, from, to, much)
			alike(t, l, w, from, to)
		}
		for from := range w.parties {
			for to := range w.parties {
				alike(t, l, w, from, to)
			}
		}
	}
}

// R1: no links at all answer ErrArg, or zero, and are left so; zero ones are those of no parties.
func TestNil(t *testing.T) {
	var zero Links
	for e, l := range map[api.Errno]*Links{api.ErrArg: nil, api.ErrNone: &zero} {
		for _, n := range []int{0, 1, 2, -1, math.MinInt, math.MaxInt} {
			for _, to := range []int{0, 1, 99, math.MaxInt} {
				if no := l.Send(n, to, []byte("a")); no != e {
					t.Error("Send", n, to, no)
				}
				if no := l.Double(n, to, 0); no != e {
					t.Error("Double", n, to, no)
				}
				if l.Count(n, to) != 0 || l.Turn(n, to) || l.Total() != 0 {
					t.Error("Count, Turn, Total", n, to)
				}
				if b, ok := l.Peek(n, to, n); len(b) != 0 || ok {
					t.Error("Peek", n, to, b, ok)
				}
				if b, ok := l.Take(n, to, n); len(b) != 0 || ok {
					t.Error("Take", n, to, b, ok)
				}
			}
		}
	}
}

// R2: links of one history answer alike.
func TestHistory(t *testing.T) {
	way := func() []byte {
		d := dice(17)
		l := New(3)
		var told []byte
		for range 400 {
			from, to := d.upTo(3), d.upTo(3)
			told = append(told, byte(l.Send(from, to, []byte{byte(d.upTo(256))})))
			told = append(told, byte(l.Double(from, to, d.place())))
			l.Turn(to, from)
			b, _ := l.Take(to, from, d.place())
			told = append(told, b...)
		}
		return told
	}
	first := way()
	for range 20 {
		if !bytes.Equal(way(), first) {
			t.Fatal("otherwise")
		}
	}
}

// R3: what is handed in is left, its spare room too, and isn't kept: what is done to it behind Send changes no letter.
func TestArgumentsAreLeft(t *testing.T) {
	l := New(2)
	all := []byte("abcdef")
	b := all[1:3]
	for range 3 {
		if e := l.Send(0, 1, b); e != api.OK {
			t.Error(e)
		}
	}
	l.Double(0, 1, 0)
	l.Turn(0, 1)
	l.Take(0, 1, 1)
	if string(all) != "abcdef" {
		t.Error(string(all))
	}
	for i := range all {
		all[i] = 'x'
	}
	holds(t, "kept", l, 0, 1, "bc", "bc", "bc")
}

// R3: each answer is new memory, its spare room too: what is done to it changes no letter, not those doubled, and no other answer.
func TestAnswersAreNew(t *testing.T) {
	l := New(2)
	send(t, l, 0, 1, "abc", "def")
	l.Double(0, 1, 0)
	l.Double(0, 1, 2)
	spoil := func(b []byte) {
		b = b[:cap(b)]
		for i := range b {
			b[i] = 'x'
		}
	}
	for at, want := range []string{"abc", "def", "abc", "abc"} {
		one, _ := l.Peek(0, 1, at)
		other, _ := l.Peek(0, 1, at)
		spoil(one)
		if string(other) != want {
			t.Error(at, string(other))
		}
	}
	holds(t, "peeked", l, 0, 1, "abc", "def", "abc", "abc")
	peeked, _ := l.Peek(0, 1, 2)
	taken, _ := l.Take(0, 1, 2)
	spoil(taken)
	if string(peeked) != "abc" {
		t.Error(string(peeked))
	}
	holds(t, "taken", l, 0, 1, "abc", "def", "abc")
	first, _ := l.Take(0, 1, 0)
	spoil(first)
	holds(t, "first", l, 0, 1, "def", "abc")
	send(t, l, 0, 1, "ghi")
	spoil(first)
	holds(t, "sent", l, 0, 1, "def", "abc", "ghi")
}

// LANGUAGE.md's rule 8: what is gone isn't kept in the spare room of what is there.
func TestNothingGoneIsKept(t *testing.T) {
	l := full(t)
	for range 5 {
		l.Take(0, 1, 2)
		l.Turn(0, 1)
		l.Take(1, 2, 0)
	}
	if len(l.letters) != l.Total() || l.Total() != api.MaxLetters-10 {
		t.Error(len(l.letters), l.Total())
	}
	for _, spare := range l.letters[len(l.letters):cap(l.letters)] {
		if spare.from != 0 || spare.to != 0 || spare.bytes != nil {
			t.Error("kept", spare)
		}
	}
}
