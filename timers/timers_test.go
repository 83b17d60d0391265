package timers

import (
	"math"
	"slices"
	"strings"
	"testing"

	"tumbrel/api"
)

// set answers timers of these keys, each due at its place's time.
func set(keys []string, due ...int64) *Timers {
	t := New()
	for i, key := range keys {
		t.Set(key, due[i])
	}
	return t
}

// holds tells what is wrong with timers that are to be just those of these keys, the one that comes first ahead; it takes them all.
func holds(t *testing.T, name string, x *Timers, keys []string, due ...int64) {
	t.Helper()
	if x.Len() != len(keys) {
		t.Error(name, "Len", x.Len(), "not", len(keys))
	}
	for i, key := range keys {
		if d, ok := x.Due(key); d != due[i] || !ok {
			t.Error(name, "Due", key, d, ok)
		}
	}
	first, ok := x.Next()
	if len(keys) == 0 && (first != 0 || ok) || len(keys) > 0 && (first != due[0] || !ok) {
		t.Error(name, "Next", first, ok)
	}
	if l := x.Take(math.MaxInt64); !slices.Equal(l, keys) {
		t.Error(name, "Take", l, "not", keys)
	}
}

// P16.1: the chapter's examples, and attempts at the edges.
func TestDelay(t *testing.T) {
	for i, want := range []int64{0, 2, 4, 8, 16, 32, 40, 40} {
		if d := Delay(i); d != want {
			t.Error(i, d, "not", want)
		}
	}
	for _, attempt := range []int{-1, -2, -63, -64, -65, math.MinInt32, math.MinInt, math.MinInt + 1} {
		if d := Delay(attempt); d != 0 {
			t.Error(attempt, d)
		}
	}
	for attempt := 6; attempt < 1000; attempt++ {
		if d := Delay(attempt); d != api.MostDelay {
			t.Error(attempt, d)
		}
	}
	for _, attempt := range []int{math.MaxInt16, math.MaxInt32, 1 << 32, 1<<32 + 1, 1<<32 + 2, 1 << 62, math.MaxInt - 1, math.MaxInt} {
		if d := Delay(attempt); d != api.MostDelay {
			t.Error(attempt, d)
		}
	}
}

// P16.2: the chapter's example.
func TestExample(t *testing.T) {
	x := New()
	x.Set("b", 5)
	x.Set("a", 5)
	if l := x.Take(5); !slices.Equal(l, []string{"a", "b"}) {
		t.Error(l)
	}
	holds(t, "behind it", x, nil)
}

// P16.2: New's timers are none, and so are the zero ones, which can be used as those of New.
func TestNone(t *testing.T) {
	var zero Timers
	for name, x := range map[string]*Timers{"New": New(), "zero": &zero, "new": new(Timers)} {
		if due, ok := x.Due("a"); due != 0 || ok {
			t.Error(name, "Due", due, ok)
		}
		if x.Stop("a") || x.Stop("") {
			t.Error(name, "Stop")
		}
		if l := x.Take(math.MinInt64); len(l) != 0 {
			t.Error(name, l)
		}
		holds(t, name, x, nil)
		x.Set("a", 1)
		x.Set("", 0)
		holds(t, name, x, []string{"", "a"}, 0, 1)
		holds(t, name, x, nil)
	}
	one, other := New(), New()
	one.Set("a", 1)
	holds(t, "the other one", other, nil)
	holds(t, "the one", one, []string{"a"}, 1)
}

// P16.2: Set has the timer due then, and anew if it is there, earlier or later or at the same time; there is one of a key.
func TestSet(t *testing.T) {
	keys := []string{"a", "b", "c", "d", "e"}
	for i, key := range keys {
		for due := int64(-5); due < 65; due += 5 {
			x := set(keys, 10, 20, 30, 40, 50)
			x.Set(key, due)
			if d, ok := x.Due(key); d != due || !ok || x.Len() != len(keys) {
				t.Error(key, due, "Due", d, ok, x.Len())
			}
			for k, other := range keys {
				if d, ok := x.Due(other); k != i && (d != int64(k+1)*10 || !ok) {
					t.Error(key, due, "Due", other, d, ok)
				}
			}
			if l := x.Take(due - 1); slices.Contains(l, key) {
				t.Error(key, due, "is taken ahead of its time", l)
			}
			if l := x.Take(due); !slices.Contains(l, key) {
				t.Error(key, due, "isn't taken", l)
			}
			if l := x.Take(math.MaxInt64); slices.Contains(l, key) {
				t.Error(key, due, "is taken twice", l)
			}
		}
	}
	x := set(keys, 10, 20, 30, 40, 50)
	x.Set("e", 5)
	x.Set("a", 60)
	x.Set("c", 30)
	holds(t, "anew", x, []string{"e", "b", "c", "d", "a"}, 5, 20, 30, 40, 60)
	x.Set("a", 1)
	holds(t, "behind Take", x, []string{"a"}, 1)
}

// P16.2: behind Stop the timer is gone, and no other one; it tells if the timer was there.
func TestStop(t *testing.T) {
	keys := []string{"d", "b", "a", "c", "e", "g", "f"}
	due := []int64{7, 7, 7, 3, 9, 3, 12}
	order := []string{"c", "g", "a", "b", "d", "e", "f"}
	for _, key := range keys {
		x := set(keys, due...)
		if x.Stop("") || x.Stop("h") || x.Stop(key+"a") || x.Len() != len(keys) {
			t.Error(key, "Stop of none", x.Len())
		}
		if !x.Stop(key) || x.Stop(key) {
			t.Error(key, "Stop")
		}
		if d, ok := x.Due(key); d != 0 || ok {
			t.Error(key, "Due", d, ok)
		}
		rest := slices.DeleteFunc(slices.Clone(order), func(other string) bool { return other == key })
		times := make([]int64, len(rest))
		for i, other := range rest {
			times[i] = due[slices.Index(keys, other)]
		}
		holds(t, "without "+key, x, rest, times...)
		if x.Stop(key) {
			t.Error(key, "Stop behind Take")
		}
		x.Set(key, 4)
		holds(t, "again "+key, x, []string{key}, 4)
	}
}

// P16.2: Take answers what is due at now or earlier, by the times and of one time by the keys, byte by byte; the rest stays.
func TestTake(t *testing.T) {
	x := set([]string{"late", "on time", "early", "now"}, 6, 5, 4, 5)
	if l := x.Take(3); len(l) != 0 || x.Len() != 4 {
		t.Error(l)
	}
	if l := x.Take(5); !slices.Equal(l, []string{"early", "now", "on time"}) {
		t.Error(l)
	}
	if l := x.Take(5); len(l) != 0 {
		t.Error(l)
	}
	holds(t, "the rest", x, []string{"late"}, 6)
	keys := []string{"b", "a", "ab", "", "B", "a\x00", "\xff", "\x80", "я", "aa", "10", "9", "_", "z", "\x00"}
	order := slices.Clone(keys)
	slices.SortFunc(order, func(a, b string) int { return slices.Compare([]byte(a), []byte(b)) })
	x = New()
	for _, key := range keys {
		x.Set(key, 8)
	}
	if l := x.Take(8); !slices.Equal(l, order) {
		t.Errorf("%q", l)
	}
	x = set([]string{"z", "y", "x"}, 1, 2, 3)
	if l := x.Take(3); !slices.Equal(l, []string{"z", "y", "x"}) {
		t.Error("keys ahead of times", l)
	}
}

// P16.2: Take may be asked of a time ahead of one that was asked, and a timer may be set to a time that is over.
func TestBackInTime(t *testing.T) {
	x := set([]string{"a", "b"}, 5, 100)
	if l := x.Take(50); !slices.Equal(l, []string{"a"}) {
		t.Error(l)
	}
	x.Set("c", 3)
	x.Set("d", 7)
	if l := x.Take(4); !slices.Equal(l, []string{"c"}) {
		t.Error(l)
	}
	holds(t, "the rest", x, []string{"d", "b"}, 7, 100)
}

// P16.2: Next is the earliest time, also behind each Set, Stop and Take, and takes nothing.
func TestNext(t *testing.T) {
	x := New()
	next := func(want int64) {
		t.Helper()
		for range 2 {
			if due, ok := x.Next(); due != want || !ok {
				t.Error(due, ok, "not", want)
			}
		}
	}
	x.Set("a", 10)
	next(10)
	x.Set("b", 5)
	next(5)
	x.Set("c", 7)
	next(5)
	x.Set("b", 20)
	next(7)
	x.Stop("c")
	next(10)
	x.Take(10)
	next(20)
	x.Set("d", 0)
	next(0)
	x.Set("d", -3)
	next(-3)
	x.Stop("d")
	x.Stop("b")
	if due, ok := x.Next(); due != 0 || ok {
		t.Error(due, ok)
	}
}

// P16.2: a time may be any number.
func TestTimesAtTheEdges(t *testing.T) {
	keys := []string{"a", "b", "c", "d", "e", "f", "g", "h"}
	due := []int64{math.MinInt64, math.MinInt64 + 1, math.MinInt32, -1, 0, api.MaxTime, math.MaxInt64 - 1, math.MaxInt64}
	backwards := New()
	for i := len(keys) - 1; i >= 0; i-- {
		backwards.Set(keys[i], due[i])
	}
	holds(t, "backwards", backwards, keys, due...)
	for i := range keys {
		x := set(keys, due...)
		if l := x.Take(due[i]); !slices.Equal(l, keys[:i+1]) {
			t.Error(due[i], l)
		}
		holds(t, "the rest", x, keys[i+1:], due[i+1:]...)
	}
}

// P16.2: a key may be any text, however long.
func TestLongKeys(t *testing.T) {
	long := strings.Repeat("a", 1<<20)
	x := set([]string{long, long + "b", long[1:], long + "\x00"}, 3, 3, 3, 3)
	holds(t, "long", x, []string{long[1:], long, long + "\x00", long + "b"}, 3, 3, 3, 3)
}

// P16.2: very many timers are set anew, stopped, asked and taken in useful time.
func TestMany(t *testing.T) {
	const many = 200000
	x := New()
	d := dice(16)
	name := func(i int) string { return string([]byte{byte(i >> 16), byte(i >> 8), byte(i)}) }
	for i := range many {
		x.Set(name(i), int64(d.upTo(many)))
	}
	for i := range many {
		x.Set(name(i), int64(i/2))
		if due, ok := x.Next(); !ok || due < 0 || due >= many {
			t.Fatal(i, due, ok)
		}
	}
	for i := 0; i < many; i += 4 {
		if !x.Stop(name(i)) {
			t.Fatal(i)
		}
	}
	for now := range many / 2 {
		var want []string
		if now%2 == 1 {
			want = append(want, name(2*now))
		}
		want = append(want, name(2*now+1))
		if l := x.Take(int64(now)); !slices.Equal(l, want) {
			t.Fatal(now, l, want)
		}
	}
	holds(t, "behind all", x, nil)
}
