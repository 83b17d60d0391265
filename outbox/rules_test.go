package outbox

import (
	"math"
	"slices"
	"strings"
	"testing"
	"unsafe"

	"tumbrel/api"
)

// dice are numbers that aren't alike, the same ones each time.
type dice uint32

func (d *dice) upTo(n int) int {
	*d = *d*1664525 + 1013904223
	return int(*d>>8) % n
}

// number is mostly one of few, or one at the edges.
func (d *dice) number(few int) int {
	edges := []int{-1, math.MaxInt32, 1 << 31, math.MinInt, 1 << 32, math.MaxInt}
	if d.upTo(25) > 0 {
		return d.upTo(few)
	}
	return edges[d.upTo(len(edges))]
}

// message is one of few, now and then one that isn't formed.
func (d *dice) message(few int) api.Message {
	names := []string{"", "x", "book", strings.Repeat("a", 200), strings.Repeat("a", 201)}
	kinds := []int{1, 2, 1, 2, 1, 2, 1, 2, 3, 4, 3, 4, 0, 5, -1}
	return api.Message{
		Kind: kinds[d.upTo(len(kinds))], Instance: d.number(few), Turn: d.number(few), Attempt: d.number(2),
		Name: names[max(0, d.upTo(30)-25)], OK: d.upTo(12) == 0,
	}
}

// words is the chapter's sentences on an outbox, asked letter by letter: each has a number of its own, by which it came.
type words struct {
	letters map[int]Letter
	last    int
}

// numbers are those of the letters that a question is true of, in the order in which they came.
func (w *words) numbers(ask func(m api.Message) bool) []int {
	var l []int
	for n, x := range w.letters {
		if ask(x.M) {
			l = append(l, n)
		}
	}
	slices.Sort(l)
	return l
}

func (w *words) put(to int, m api.Message) api.Errno {
	request := m.Kind == 1 || m.Kind == 2
	for _, n := range []int{m.Instance, m.Turn, m.Attempt} {
		request = request && n >= 0 && n <= 1<<31-1
	}
	if !request || len(m.Name) > 200 || m.OK || to < 0 {
		return api.ErrArg
	}
	if len(w.numbers(func(x api.Message) bool {
		return [3]int{x.Kind, x.Instance, x.Turn} == [3]int{m.Kind, m.Instance, m.Turn}
	})) > 0 {
		return api.ErrExists
	}
	if len(w.letters) == 100 {
		return api.ErrFull
	}
	w.last++
	w.letters[w.last] = Letter{To: to, M: m}
	return api.OK
}

func (w *words) answer(m api.Message) (Letter, bool) {
	kinds := map[int]int{1: 3, 2: 4}
	l := w.numbers(func(x api.Message) bool {
		return [4]int{kinds[x.Kind], x.Instance, x.Turn, x.Attempt} == [4]int{m.Kind, m.Instance, m.Turn, m.Attempt}
	})
	if len(l) == 0 {
		return Letter{}, false
	}
	x := w.letters[l[0]]
	delete(w.letters, l[0])
	return x, true
}

func (w *words) forget(instance int) int {
	l := w.numbers(func(x api.Message) bool { return x.Instance == instance })
	for _, n := range l {
		delete(w.letters, n)
	}
	return len(l)
}

func (w *words) all() []Letter {
	var l []Letter
	for _, n := range w.numbers(func(api.Message) bool { return true }) {
		l = append(l, w.letters[n])
	}
	return l
}

// step has one call made, of which that many of 20 are Put, and tells what is answered otherwise.
func step(t *testing.T, o *Outbox, w *words, d *dice, few, puts int) {
	t.Helper()
	m := d.message(few)
	switch kind := d.upTo(20); {
	case kind < puts:
		to := d.number(5)
		if e, want := o.Put(to, m), w.put(to, m); e != want {
			t.Fatalf("Put %d %+v: %v, not %v", to, m, e, want)
		}
	case kind < 19:
		m.Kind = 3 + m.Kind%2
		if d.upTo(2) == 0 && len(w.letters) > 0 {
			// One of those that are there, so that some are answered.
			x := w.all()[d.upTo(len(w.letters))].M
			m.Kind, m.Instance, m.Turn, m.Attempt = x.Kind+2, x.Instance, x.Turn, x.Attempt
		}
		x, ok := o.Answer(m)
		if want, there := w.answer(m); x != want || ok != there {
			t.Fatalf("Answer %+v: %+v %t, not %+v %t", m, x, ok, want, there)
		}
	case d.upTo(4) == 0:
		instance := d.number(few)
		if n, want := o.Forget(instance), w.forget(instance); n != want {
			t.Fatalf("Forget %d: %d, not %d", instance, n, want)
		}
	}
	if l, want := o.All(), w.all(); !slices.Equal(l, want) {
		t.Fatalf("All %+v, not %+v", l, want)
	}
}

// P18.2: long ways of calls answer what the chapter's words do, few letters there or as many as there may be.
func TestByTheWords(t *testing.T) {
	fullOnce := false
	for way := range 60 {
		d := dice(way)
		o, w := New(), &words{letters: map[int]Letter{}}
		few, puts := []int{2, 4, 30}[way%3], []int{10, 14, 17}[way%3]
		for range 400 {
			step(t, o, w, &d, few, puts)
			fullOnce = fullOnce || len(w.letters) == api.MaxLetters
		}
	}
	if !fullOnce {
		t.Error("no way had as many letters as there may be")
	}
}

// P18.1, P18.2: what Put takes is what Encode tells and Decode tells again, but for replies.
func TestPutIsEncoded(t *testing.T) {
	d := dice(3)
	for range 3000 {
		m := d.message(300)
		b, e := Encode(m)
		if Formed(m) != (e == api.OK) {
			t.Fatal(m, e)
		}
		no := New().Put(0, m)
		if request := m.Kind == api.Do || m.Kind == api.Undo; (no == api.OK) != (e == api.OK && request) {
			t.Fatal(m, no, e)
		}
		if n, no := Decode(b); e == api.OK && (n != m || no != api.OK) {
			t.Fatal(m, n, no)
		}
	}
}

// R1: no outbox at all answers ErrArg, or zero, and is left so.
func TestNil(t *testing.T) {
	var o *Outbox
	for _, m := range append(formed(), unformed()...) {
		for _, to := range []int{0, 1, -1, math.MaxInt, math.MinInt} {
			if e := o.Put(to, m); e != api.ErrArg {
				t.Error("Put", to, m, e)
			}
		}
		fitsNone(t, o, m)
		if n := o.Forget(m.Instance); n != 0 {
			t.Error("Forget", n)
		}
		holds(t, "nil", o)
	}
}

// R2: outboxes of one history answer alike.
func TestHistory(t *testing.T) {
	way := func() []Letter {
		d := dice(18)
		o := New()
		var told []Letter
		for range 500 {
			told = append(told, Letter{To: int(o.Put(d.number(5), d.message(4)))})
			x, _ := o.Answer(d.message(4))
			told = append(told, x, Letter{To: o.Forget(d.upTo(50))})
		}
		return append(told, o.All()...)
	}
	first := way()
	for range 20 {
		if !slices.Equal(way(), first) {
			t.Fatal("otherwise")
		}
	}
}

// R3: bytes that are handed in are left, their spare room too, and aren't kept: what is done to them changes no answer.
func TestArgumentsAreLeft(t *testing.T) {
	m := api.Message{Kind: api.Did, Instance: 7, Turn: 300, Name: "abc", Attempt: 1, OK: true}
	whole := bytesOf(m) + "behind"
	all := []byte(whole)
	b := all[:len(all)-6]
	n, e := Decode(b)
	if _, no := Decode(b[:len(b)-1]); no != api.ErrForm {
		t.Error(no)
	}
	if string(all) != whole {
		t.Errorf("%x, not %x", all, whole)
	}
	for i := range all {
		all[i] = 'x'
	}
	if n != m || e != api.OK {
		t.Error(n, e)
	}
}

// R3: each answer is new memory, its spare room too: what is done to it changes no other one.
func TestAnswersAreNew(t *testing.T) {
	m := do(1, 1, 1)
	one, _ := Encode(m)
	one = one[:cap(one)]
	for i := range one {
		one[i] = 'x'
	}
	if b, e := Encode(m); string(b) != bytesOf(m) || e != api.OK {
		t.Errorf("%x %v", b, e)
	}
	o := New()
	letters := put(t, o, do(1, 1, 1), undo(1, 1, 1), do(1, 2, 1))
	first, second := o.All(), o.All()
	first = first[:cap(first)]
	for i := range first {
		first[i] = Letter{To: 99, M: did(9, 9, 9)}
	}
	if !slices.Equal(second, letters) {
		t.Error(second)
	}
	holds(t, "spoilt", o, letters...)
	for turn := range 20 {
		spare := o.All()
		_ = append(spare, Letter{To: 99})
		if e := o.Put(4, do(5, turn, 0)); e != api.OK {
			t.Error(e)
		}
		letters = append(letters, Letter{To: 4, M: do(5, turn, 0)})
		_ = append(spare, Letter{To: 99})
		holds(t, "put", o, letters...)
	}
	all := o.All()
	answers(t, o, did(1, 1, 1), letters[0])
	if n := o.Forget(1); n != 2 {
		t.Error(n)
	}
	if !slices.Equal(all, letters) {
		t.Error(all)
	}
}

// LANGUAGE.md's rule 7: a name isn't kept with the text that it is a piece of.
func TestNamesAreNotKept(t *testing.T) {
	long := strings.Repeat("name", 1000)
	o := New()
	put(t, o, api.Message{Kind: api.Do, Name: long[4:8]})
	name := o.letters[0].M.Name
	if name != "name" || unsafe.StringData(name) == unsafe.StringData(long[4:8]) {
		t.Error("kept", name)
	}
}

// LANGUAGE.md's rule 8: what is gone isn't kept in the spare room of what is there.
func TestNothingGoneIsKept(t *testing.T) {
	o, letters := full(t)
	for _, l := range letters[10:15] {
		m := l.M
		answers(t, o, api.Message{Kind: m.Kind + 2, Instance: m.Instance, Turn: m.Turn, Attempt: m.Attempt}, l)
	}
	if n := o.Forget(2); n != 19 {
		t.Error(n)
	}
	if len(o.letters) != api.MaxLetters-24 {
		t.Error(len(o.letters))
	}
	for _, spare := range o.letters[len(o.letters):cap(o.letters)] {
		if spare != (Letter{}) {
			t.Error("kept", spare)
		}
	}
}
