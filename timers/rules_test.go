package timers

import (
	"math"
	"slices"
	"sort"
	"strings"
	"testing"
	"unsafe"
)

// dice are numbers that aren't alike, the same ones each time.
type dice uint32

func (d *dice) upTo(n int) int {
	*d = *d*1664525 + 1013904223
	return int(*d>>8) % n
}

// key is one of few texts, of which some are alike but for their ends.
func (d *dice) key() string {
	keys := []string{"", "a", "b", "aa", "ab", "a\x00", "\xff", "я", "10", "9", "B", "ba", "abc", "c", "d"}
	return keys[d.upTo(len(keys))]
}

// time is mostly one of few, or one at the edges.
func (d *dice) time() int64 {
	edges := []int64{math.MinInt64, math.MaxInt64, -1, 1 << 40, 1 << 32, math.MinInt32}
	if d.upTo(10) > 0 {
		return int64(d.upTo(9))
	}
	return edges[d.upTo(len(edges))]
}

// words is the chapter's sentences on timers, asked timer by timer: these stand in the order in which they came.
type words struct {
	keys []string
	due  []int64
}

func (w *words) stop(key string) bool {
	at := slices.Index(w.keys, key)
	if at < 0 {
		return false
	}
	w.keys = slices.Delete(w.keys, at, at+1)
	w.due = slices.Delete(w.due, at, at+1)
	return true
}

func (w *words) set(key string, due int64) {
	w.stop(key)
	w.keys = append(w.keys, key)
	w.due = append(w.due, due)
}

func (w *words) find(key string) (int64, bool) {
	at := slices.Index(w.keys, key)
	if at < 0 {
		return 0, false
	}
	return w.due[at], true
}

func (w *words) next() (int64, bool) {
	if len(w.due) == 0 {
		return 0, false
	}
	return slices.Min(w.due), true
}

func (w *words) take(now int64) []string {
	var l []string
	for _, key := range w.keys {
		if due, _ := w.find(key); due <= now {
			l = append(l, key)
		}
	}
	sort.Strings(l)
	sort.SliceStable(l, func(a, b int) bool {
		one, _ := w.find(l[a])
		other, _ := w.find(l[b])
		return one < other
	})
	for _, key := range l {
		w.stop(key)
	}
	return l
}

// alike tells what timers and the words answer otherwise, asked what changes nothing.
func alike(t *testing.T, x *Timers, w *words, d *dice) {
	t.Helper()
	if x.Len() != len(w.keys) {
		t.Fatal("Len", x.Len(), len(w.keys))
	}
	due, ok := x.Next()
	if want, there := w.next(); due != want || ok != there {
		t.Fatal("Next", due, ok, want, there)
	}
	key := d.key()
	due, ok = x.Due(key)
	if want, there := w.find(key); due != want || ok != there {
		t.Fatalf("Due %q %d %t, not %d %t", key, due, ok, want, there)
	}
}

// P16.2: long ways of calls answer what the chapter's words do.
func TestByTheWords(t *testing.T) {
	for way := range 400 {
		d := dice(way)
		x, w := New(), &words{}
		for range 200 {
			switch kind := d.upTo(10); {
			case kind < 6:
				key, due := d.key(), d.time()
				x.Set(key, due)
				w.set(key, due)
			case kind < 8:
				key := d.key()
				if ok, want := x.Stop(key), w.stop(key); ok != want {
					t.Fatalf("way %d: Stop %q %t, not %t", way, key, ok, want)
				}
			default:
				now := d.time()
				if l, want := x.Take(now), w.take(now); !slices.Equal(l, want) {
					t.Fatalf("way %d: Take %d %q, not %q", way, now, l, want)
				}
			}
			alike(t, x, w, &d)
		}
	}
}

// P16.2: in whatever order timers are set, they are taken in one.
func TestEachOrder(t *testing.T) {
	keys := []string{"a", "b", "c", "d", "e", "f"}
	due := []int64{1, 1, 2, 2, 2, 3}
	var ways func(left []int, done []int)
	ways = func(left []int, done []int) {
		if len(left) == 0 {
			x := New()
			for _, i := range done {
				x.Set(keys[i], due[i])
			}
			if l := x.Take(3); !slices.Equal(l, keys) {
				t.Error(done, l)
			}
		}
		for k, i := range left {
			rest := slices.Delete(slices.Clone(left), k, k+1)
			ways(rest, append(slices.Clone(done), i))
		}
	}
	ways([]int{0, 1, 2, 3, 4, 5}, nil)
}

// R1: no timers at all answer zero, and are left so.
func TestNil(t *testing.T) {
	var x *Timers
	x.Set("a", 1)
	x.Set("", math.MinInt64)
	if x.Stop("a") || x.Len() != 0 {
		t.Error("Stop", x.Len())
	}
	if due, ok := x.Due("a"); due != 0 || ok {
		t.Error("Due", due, ok)
	}
	if due, ok := x.Next(); due != 0 || ok {
		t.Error("Next", due, ok)
	}
	for _, now := range []int64{math.MinInt64, -1, 0, 1, math.MaxInt64} {
		if l := x.Take(now); len(l) != 0 {
			t.Error("Take", l)
		}
	}
}

// R2: timers of one history answer alike, and those of others don't matter.
func TestHistory(t *testing.T) {
	way := func() []string {
		d := dice(7)
		x := New()
		var l []string
		for range 300 {
			x.Set(d.key(), d.time())
			if d.upTo(5) == 0 {
				l = append(l, x.Take(d.time())...)
			}
		}
		return append(l, x.Take(math.MaxInt64)...)
	}
	first := way()
	for range 20 {
		if l := way(); !slices.Equal(l, first) {
			t.Fatalf("%q, not %q", l, first)
		}
	}
}

// R3: what Take answers is new memory, spare room too: what is done to it changes no timers and no other answer.
func TestAnswersAreNew(t *testing.T) {
	x := set([]string{"a", "b", "c", "d", "e"}, 1, 1, 1, 2, 3)
	first := x.Take(1)
	all := first[:cap(first)]
	for i := range all {
		all[i] = "z"
	}
	second := x.Take(2)
	if !slices.Equal(second, []string{"d"}) {
		t.Error(second)
	}
	if all = second[:cap(second)]; len(all) > 0 {
		all[len(all)-1] = "y"
	}
	if first[0] != "z" {
		t.Error(first)
	}
	x.Set("a", 1)
	holds(t, "the rest", x, []string{"a", "e"}, 1, 3)
}

// R3: a key that is handed in isn't kept, nor is the longer text that it is a piece of: Set keeps one of its own.
func TestKeysAreNotKept(t *testing.T) {
	text := strings.Repeat("key", 1000)
	for _, key := range []string{text, text[3:6]} {
		x := New()
		x.Set(key, 1)
		x.Set(key, 2)
		l := x.Take(2)
		if len(l) != 1 || l[0] != key || unsafe.StringData(l[0]) == unsafe.StringData(key) {
			t.Error(len(key), len(l))
		}
	}
}

// LANGUAGE.md's rule 8: what is gone isn't kept in the spare room of what is there.
func TestNothingGoneIsKept(t *testing.T) {
	x := New()
	for _, key := range []string{"a", "b", "c", "d", "e", "f", "g"} {
		x.Set(strings.Repeat(key, 9), 1)
	}
	x.Stop("ccccccccc")
	x.Stop("ggggggggg")
	x.Set("bbbbbbbbb", 2)
	x.Take(1)
	spare := x.queue.list[:cap(x.queue.list)]
	if spare[0] != (timer{key: "bbbbbbbbb", due: 2}) || len(x.queue.places) != 1 {
		t.Error(spare[0], x.queue.places)
	}
	for _, s := range spare[1:] {
		if s != (timer{}) {
			t.Error("kept", s)
		}
	}
}
