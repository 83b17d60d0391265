package outbox

import (
	"math"
	"slices"
	"strconv"
	"strings"
	"testing"

	"tumbrel/api"
)

// do, undo, did and undid are messages with a name, of which nothing is to hang.
func do(instance, turn, attempt int) api.Message {
	return api.Message{Kind: api.Do, Instance: instance, Turn: turn, Name: "x", Attempt: attempt}
}

func undo(instance, turn, attempt int) api.Message {
	return api.Message{Kind: api.Undo, Instance: instance, Turn: turn, Name: "y", Attempt: attempt}
}

func did(instance, turn, attempt int) api.Message {
	return api.Message{Kind: api.Did, Instance: instance, Turn: turn, Name: "z", Attempt: attempt, OK: true}
}

func undid(instance, turn, attempt int) api.Message {
	return api.Message{Kind: api.Undid, Instance: instance, Turn: turn, Attempt: attempt}
}

// put lays letters into an outbox, to 0, 1, 2 and so on.
func put(t *testing.T, o *Outbox, requests ...api.Message) []Letter {
	t.Helper()
	var letters []Letter
	for to, m := range requests {
		if e := o.Put(to, m); e != api.OK {
			t.Errorf("Put %d %+v: %v", to, m, e)
		}
		letters = append(letters, Letter{To: to, M: m})
	}
	return letters
}

// holds tells what is wrong with an outbox that is to have just these letters: how many there are, and the first one that is another.
func holds(t *testing.T, name string, o *Outbox, letters ...Letter) {
	t.Helper()
	all := o.All()
	if len(all) != len(letters) {
		t.Errorf("%s: %d letters, not %d", name, len(all), len(letters))
		return
	}
	for i, l := range all {
		if l != letters[i] {
			t.Errorf("%s: letter %d: %+v, not %+v", name, i, l, letters[i])
			return
		}
	}
}

// without is letters but that at a place, as new memory.
func without(letters []Letter, at int) []Letter {
	return slices.Delete(slices.Clone(letters), at, at+1)
}

// answers tells if m is answered other than by that letter.
func answers(t *testing.T, o *Outbox, m api.Message, l Letter) {
	t.Helper()
	if got, ok := o.Answer(m); got != l || !ok {
		t.Errorf("Answer %+v: %+v %t, not %+v", m, got, ok, l)
	}
}

// fitsNone tells if m is answered by a letter, or something is beside the false (R5).
func fitsNone(t *testing.T, o *Outbox, m api.Message) {
	t.Helper()
	if got, ok := o.Answer(m); got != (Letter{}) || ok {
		t.Errorf("Answer %+v: %+v %t", m, got, ok)
	}
}

// full answers an outbox of as many letters as there may be, and these: each second one an Undo.
func full(t *testing.T) (*Outbox, []Letter) {
	t.Helper()
	o := New()
	var requests []api.Message
	for i := range api.MaxLetters {
		if i%2 == 0 {
			requests = append(requests, do(i%5, i, i))
		} else {
			requests = append(requests, undo(i%5, i, i))
		}
	}
	return o, put(t, o, requests...)
}

// P18.2: the chapter's example.
func TestExample(t *testing.T) {
	o := New()
	letters := put(t, o, do(1, 1, 1))
	fitsNone(t, o, did(1, 1, 0))
	answers(t, o, did(1, 1, 1), letters[0])
	holds(t, "behind it", o)
}

// P18.2: New and the zero Outbox have no letters, and take some.
func TestNew(t *testing.T) {
	var zero Outbox
	for _, o := range []*Outbox{New(), &zero, new(Outbox)} {
		holds(t, "new", o)
		fitsNone(t, o, did(0, 0, 0))
		fitsNone(t, o, api.Message{})
		if n := o.Forget(0); n != 0 {
			t.Error(n)
		}
		letters := put(t, o, do(0, 0, 0), undo(0, 0, 0), do(1, 0, 0))
		holds(t, "put", o, letters...)
	}
}

// P18.2: Put's letter is the last one; requests of another kind, instance or turn are others, and to may be any number from 0 on.
func TestPut(t *testing.T) {
	o := New()
	var letters []Letter
	for i, m := range []api.Message{
		do(1, 2, 1), undo(1, 2, 1), do(2, 2, 1), do(1, 3, 1), do(2, 1, 1), undo(2, 1, 0), do(0, 0, 0), undo(0, 0, 0),
		{Kind: api.Do, Instance: math.MaxInt32, Turn: math.MaxInt32, Attempt: math.MaxInt32, Name: strings.Repeat("\xff", 200)},
		{Kind: api.Undo, Instance: math.MaxInt32, Turn: math.MaxInt32},
	} {
		to := []int{0, 1, 4, 0, math.MaxInt, math.MaxInt32, 1 << 32, 100, 7, 0}[i]
		if e := o.Put(to, m); e != api.OK {
			t.Errorf("%d %+v: %v", to, m, e)
		}
		letters = append(letters, Letter{To: to, M: m})
		holds(t, "put", o, letters...)
	}
}

// P18.2: Put is ErrArg of what is no formed Do or Undo, and to below 0; it changes nothing (R5).
func TestPutArg(t *testing.T) {
	some := New()
	letters := put(t, some, do(1, 2, 1), undo(1, 2, 1))
	most, all := full(t)
	for _, c := range []struct {
		o       *Outbox
		letters []Letter
	}{{New(), nil}, {some, letters}, {most, all}} {
		for _, to := range []int{-1, -2, math.MinInt32, math.MinInt} {
			for _, m := range []api.Message{do(1, 2, 1), undo(1, 2, 1), do(9, 9, 9), did(1, 2, 1), {}} {
				if e := c.o.Put(to, m); e != api.ErrArg {
					t.Errorf("%d %+v: %v", to, m, e)
				}
			}
		}
		for _, m := range append(unformed(), did(1, 2, 1), undid(1, 2, 1), api.Message{Kind: api.Did}, api.Message{Kind: api.Undid}) {
			if e := c.o.Put(0, m); e != api.ErrArg {
				t.Errorf("%+v: %v", m, e)
			}
		}
		// R6: of what is there, but for its name or its OK, ErrArg is told first.
		for _, m := range []api.Message{{Kind: api.Do, Instance: 1, Turn: 2, OK: true}, {Kind: api.Undo, Instance: 1, Turn: 2, Name: strings.Repeat("a", 201)}} {
			if e := c.o.Put(0, m); e != api.ErrArg {
				t.Errorf("%+v: %v", m, e)
			}
		}
		holds(t, "left", c.o, c.letters...)
	}
}

// P18.2: Put is ErrExists of a request of one Kind, Instance and Turn, whatever else it says, and whoever it goes to; it changes nothing (R5).
func TestPutExists(t *testing.T) {
	o := New()
	letters := put(t, o, do(1, 2, 1), undo(3, 4, 1))
	for to := range 3 {
		for _, m := range []api.Message{do(1, 2, 1), do(1, 2, 0), do(1, 2, 7), undo(3, 4, 1), undo(3, 4, 0), {Kind: api.Do, Instance: 1, Turn: 2, Name: "another", Attempt: 1}} {
			if e := o.Put(to, m); e != api.ErrExists {
				t.Errorf("%d %+v: %v", to, m, e)
			}
		}
	}
	holds(t, "left", o, letters...)
	answers(t, o, did(1, 2, 1), letters[0])
	if e := o.Put(5, do(1, 2, 7)); e != api.OK {
		t.Error("of what is gone", e)
	}
	holds(t, "again", o, letters[1], Letter{To: 5, M: do(1, 2, 7)})
}

// P18.2: there are at most MaxLetters; then Put is ErrFull, but ErrExists of what is there (R6), till a letter is gone.
func TestPutFull(t *testing.T) {
	o, letters := full(t)
	if len(letters) != api.MaxLetters {
		t.Fatal(len(letters))
	}
	for _, m := range []api.Message{do(9, 9, 9), undo(0, 0, 0), do(1, 1, 1)} {
		if e := o.Put(0, m); e != api.ErrFull {
			t.Errorf("%+v: %v", m, e)
		}
	}
	for _, l := range letters {
		if e := o.Put(l.To, l.M); e != api.ErrExists {
			t.Errorf("%+v: %v", l, e)
		}
	}
	holds(t, "full", o, letters...)
	answers(t, o, did(0, 50, 50), letters[50])
	if e := o.Put(3, undo(0, 0, 0)); e != api.OK {
		t.Error(e)
	}
	letters = append(without(letters, 50), Letter{To: 3, M: undo(0, 0, 0)})
	holds(t, "again", o, letters...)
	if e := o.Put(3, do(9, 9, 9)); e != api.ErrFull {
		t.Error(e)
	}
	if n := o.Forget(0); n != 20 {
		t.Error(n)
	}
	for turn := range 20 {
		if e := o.Put(0, do(9, turn, 0)); e != api.OK {
			t.Error(turn, e)
		}
	}
	if e := o.Put(0, do(9, 20, 0)); e != api.ErrFull {
		t.Error(e)
	}
}

// P18.2: Answer takes the letter that m fits from any place, with all that was put, whatever m's name and OK; the others stay in order.
func TestAnswer(t *testing.T) {
	requests := []api.Message{do(1, 1, 1), undo(1, 1, 1), do(1, 2, 1), do(2, 1, 1), undo(2, 1, 3)}
	for at, m := range requests {
		for _, ok := range []bool{false, true} {
			for _, name := range []string{"", "x", "another", strings.Repeat("a", 200)} {
				o := New()
				letters := put(t, o, requests...)
				reply := api.Message{Kind: m.Kind + 2, Instance: m.Instance, Turn: m.Turn, Attempt: m.Attempt, Name: name, OK: ok}
				answers(t, o, reply, letters[at])
				holds(t, "behind it", o, without(letters, at)...)
				fitsNone(t, o, reply)
				holds(t, "again", o, without(letters, at)...)
			}
		}
	}
}

// P18.2: what fits no letter is answered nothing and false, and nothing is gone: another kind, instance, turn or attempt.
func TestAnswerNone(t *testing.T) {
	o := New()
	letters := put(t, o, do(1, 2, 3), undo(4, 5, 6))
	for _, m := range []api.Message{
		{},
		did(2, 2, 3), did(1, 3, 3), did(1, 2, 2), did(1, 2, 4), did(0, 2, 3), did(1, 0, 3), did(1, 2, 0),
		undid(1, 2, 3), did(4, 5, 6), undid(3, 5, 6), undid(4, 4, 6), undid(4, 5, 5), undid(4, 5, 7),
		do(1, 2, 3), undo(4, 5, 6), do(4, 5, 6), undo(1, 2, 3),
		{Kind: 0, Instance: 1, Turn: 2, Attempt: 3}, {Kind: 5, Instance: 1, Turn: 2, Attempt: 3}, {Kind: -1, Instance: 1, Turn: 2, Attempt: 3},
		{Kind: api.Did + 1<<32, Instance: 1, Turn: 2, Attempt: 3}, {Kind: api.Did, Instance: 1 + 1<<32, Turn: 2, Attempt: 3},
		{Kind: api.Did, Instance: -1, Turn: -2, Attempt: -3}, {Kind: api.Did, Instance: 2, Turn: 1, Attempt: 3}, {Kind: api.Did, Instance: 1, Turn: 3, Attempt: 2},
	} {
		fitsNone(t, o, m)
	}
	holds(t, "left", o, letters...)
}

// P18.2: a reply of an earlier attempt fits no later one.
func TestAnswerAttempts(t *testing.T) {
	o := New()
	for attempt := range 6 {
		if e := o.Put(1, do(1, 1, attempt)); e != api.OK {
			t.Error(attempt, e)
		}
		for other := range 7 {
			if other != attempt {
				fitsNone(t, o, did(1, 1, other))
			}
		}
		answers(t, o, did(1, 1, attempt), Letter{To: 1, M: do(1, 1, attempt)})
	}
}

// P18.2: Forget's letters are gone, all of that instance and no others, and it answers how many.
func TestForget(t *testing.T) {
	requests := []api.Message{do(1, 1, 1), do(2, 1, 1), undo(1, 1, 1), do(3, 1, 1), do(1, 2, 1), undo(2, 2, 1), do(0, 0, 0)}
	for instance, places := range map[int][]int{
		0: {6}, 1: {0, 2, 4}, 2: {1, 5}, 3: {3}, 4: nil, -1: nil, 1 << 32: nil, 1<<32 + 1: nil, math.MaxInt: nil, math.MinInt: nil,
	} {
		o := New()
		letters := put(t, o, requests...)
		if n := o.Forget(instance); n != len(places) {
			t.Error(instance, n, "not", len(places))
		}
		for i := len(places) - 1; i >= 0; i-- {
			letters = without(letters, places[i])
		}
		holds(t, "forgot "+strconv.Itoa(instance), o, letters...)
		if n := o.Forget(instance); n != 0 {
			t.Error(instance, "again", n)
		}
		for _, at := range places {
			m := requests[at]
			fitsNone(t, o, api.Message{Kind: m.Kind + 2, Instance: m.Instance, Turn: m.Turn, Attempt: m.Attempt})
			if e := o.Put(9, m); e != api.OK {
				t.Error(m, e)
			}
			letters = append(letters, Letter{To: 9, M: m})
		}
		holds(t, "put again", o, letters...)
	}
}

// P18.2: All answers the letters in the order in which they came, and takes none.
func TestAll(t *testing.T) {
	o, letters := full(t)
	for range 3 {
		holds(t, "all", o, letters...)
	}
	for len(letters) > 0 {
		at := len(letters) / 2
		m := letters[at].M
		answers(t, o, api.Message{Kind: m.Kind + 2, Instance: m.Instance, Turn: m.Turn, Attempt: m.Attempt}, letters[at])
		letters = without(letters, at)
		holds(t, "all", o, letters...)
	}
}

// P18.2: outboxes have nothing to do with one another.
func TestApart(t *testing.T) {
	one, other := New(), New()
	a := put(t, one, do(1, 1, 1))
	b := put(t, other, do(1, 1, 1), undo(1, 1, 1))
	answers(t, other, did(1, 1, 1), b[0])
	holds(t, "one", one, a...)
	if n := one.Forget(1); n != 1 {
		t.Error(n)
	}
	holds(t, "one", one)
	holds(t, "other", other, b[1])
}
