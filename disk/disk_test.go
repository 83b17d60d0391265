package disk

import (
	"math"
	"slices"
	"testing"

	"tumbrel/api"
)

// list is segments' numbers, or what a crash keeps.
type list = []int

// want fails unless a call answered the error.
func want(t *testing.T, got, no api.Errno) {
	t.Helper()
	if got != no {
		t.Errorf("answered %d, want %d", int(got), int(no))
	}
}

// add appends what must be done.
func add(t *testing.T, d *Disk, segment int, s string) {
	t.Helper()
	if no := d.Append(segment, []byte(s)); no != api.OK {
		t.Fatalf("Append(%d, %q): %d", segment, s, int(no))
	}
}

// wantRead fails unless the segment's bytes are these.
func wantRead(t *testing.T, d *Disk, segment int, s string) {
	t.Helper()
	if b, no := d.Read(segment); string(b) != s || no != api.OK {
		t.Errorf("Read(%d) = %q, %d; want %q", segment, b, int(no), s)
	}
}

// wantNoRead fails unless Read answers the error, and nothing beside it.
func wantNoRead(t *testing.T, d *Disk, segment int, no api.Errno) {
	t.Helper()
	if b, got := d.Read(segment); len(b) != 0 || got != no {
		t.Errorf("Read(%d) = %q, %d; want %d", segment, b, int(got), int(no))
	}
}

// wantTold fails unless the disk tells these segments' numbers, of each so many bytes that are synced, and so many in all.
func wantTold(t *testing.T, d *Disk, numbers, synced list, used int) {
	t.Helper()
	if got := d.Segments(); !slices.Equal(got, numbers) {
		t.Errorf("Segments() = %v, want %v", got, numbers)
	}
	for i, number := range numbers {
		if got := d.Synced(number); got != synced[i] {
			t.Errorf("Synced(%d) = %d, want %d", number, got, synced[i])
		}
	}
	if got := d.Used(); got != used {
		t.Errorf("Used() = %d, want %d", got, used)
	}
}

// wantDown fails unless Down answers so.
func wantDown(t *testing.T, d *Disk, down bool) {
	t.Helper()
	if d.Down() != down {
		t.Errorf("Down() = %v", !down)
	}
}

// The chapter's example.
func TestExample(t *testing.T) {
	d := New(100)
	add(t, d, 1, "ab")
	want(t, d.Sync(1), api.OK)
	add(t, d, 1, "cd")
	d.Crash(list{1})
	wantRead(t, d, 1, "abc")
}

// P14.1: a new disk has no segments, is up and has no fuse.
func TestNew(t *testing.T) {
	for _, room := range []int{0, 1, 1000, math.MaxInt, -1, math.MinInt} {
		d := New(room)
		wantTold(t, d, nil, nil, 0)
		wantDown(t, d, false)
		for range 1000 {
			want(t, d.Append(3, nil), api.OK)
			want(t, d.Sync(3), api.OK)
			want(t, d.Drop(3), api.OK)
		}
		wantDown(t, d, false)
	}
}

// P14.1: the room is for all bytes of all segments, to the last one; one below 0 counts as 0.
func TestRoom(t *testing.T) {
	for _, room := range []int{0, -1, -7, math.MinInt} {
		d := New(room)
		want(t, d.Append(0, []byte("a")), api.ErrFull)
		wantTold(t, d, nil, nil, 0)
		want(t, d.Append(0, nil), api.OK)
	}
	d := New(5)
	want(t, d.Append(2, []byte("abcdef")), api.ErrFull)
	add(t, d, 2, "ab")
	add(t, d, 0, "cd")
	want(t, d.Append(1, []byte("ef")), api.ErrFull)
	want(t, d.Append(2, []byte("ef")), api.ErrFull)
	wantTold(t, d, list{0, 2}, list{0, 0}, 4)
	wantRead(t, d, 2, "ab")
	add(t, d, 1, "e")
	want(t, d.Append(1, []byte("f")), api.ErrFull)
	want(t, d.Append(9, []byte("f")), api.ErrFull)
	wantTold(t, d, list{0, 1, 2}, list{0, 0, 0}, 5)
	// Nothing more is used by no bytes.
	want(t, d.Append(9, nil), api.OK)
	want(t, d.Append(2, []byte{}), api.OK)
	wantTold(t, d, list{0, 1, 2, 9}, list{0, 0, 0, 0}, 5)
	// What is dropped, or lost by a crash, is room again.
	want(t, d.Drop(2), api.OK)
	want(t, d.Append(1, []byte("fgh")), api.ErrFull)
	add(t, d, 1, "fg")
	d.Crash(list{1})
	wantTold(t, d, list{0, 1}, list{1, 1}, 2)
	add(t, d, 4, "xyz")
	want(t, d.Append(4, []byte("!")), api.ErrFull)
}

// P14.1: the greatest room takes what comes, and is never passed by wrapping round.
func TestGreatestRoom(t *testing.T) {
	d := New(math.MaxInt)
	add(t, d, math.MaxInt, "abc")
	add(t, d, math.MaxInt, "def")
	wantRead(t, d, math.MaxInt, "abcdef")
	d.SetRoom(math.MinInt)
	want(t, d.Append(0, []byte("a")), api.ErrFull)
	wantTold(t, d, list{math.MaxInt}, list{0}, 6)
}

// P14.1: what is appended stands behind what is there, of its own segment alone.
func TestAppend(t *testing.T) {
	d := New(1000)
	for _, c := range []struct {
		segment int
		s       string
	}{{7, "a"}, {0, "\x00\xff"}, {7, ""}, {7, "bc"}, {math.MaxInt, "z"}, {0, "0"}, {7, "\x00"}} {
		add(t, d, c.segment, c.s)
	}
	wantRead(t, d, 7, "abc\x00")
	wantRead(t, d, 0, "\x00\xff0")
	wantRead(t, d, math.MaxInt, "z")
	wantTold(t, d, list{0, 7, math.MaxInt}, list{0, 0, 0}, 8)
}

// P14.1: no bytes make a segment too.
func TestAppendNothing(t *testing.T) {
	d := New(10)
	want(t, d.Append(3, nil), api.OK)
	wantRead(t, d, 3, "")
	wantTold(t, d, list{3}, list{0}, 0)
	want(t, d.Sync(3), api.OK)
	add(t, d, 3, "a")
	wantRead(t, d, 3, "a")
	wantTold(t, d, list{3}, list{0}, 1)
}

// P14.1: numbers below 0 are wrong for Append, and no segment's for the others.
func TestNumbersBelowZero(t *testing.T) {
	d := New(10)
	add(t, d, 1, "a")
	for _, number := range []int{-1, -2, math.MinInt} {
		want(t, d.Append(number, []byte("a")), api.ErrArg)
		want(t, d.Append(number, nil), api.ErrArg)
		want(t, d.Sync(number), api.ErrNone)
		want(t, d.Drop(number), api.ErrNone)
		wantNoRead(t, d, number, api.ErrNone)
		if d.Synced(number) != 0 || d.Spoil(number, 0, 1) {
			t.Error(number)
		}
	}
	wantTold(t, d, list{1}, list{0}, 1)
}

// P14.1: Sync syncs all of its segment, and nothing else; what is appended then isn't synced.
func TestSync(t *testing.T) {
	d := New(100)
	add(t, d, 1, "abc")
	add(t, d, 2, "de")
	want(t, d.Sync(3), api.ErrNone)
	want(t, d.Sync(0), api.ErrNone)
	wantTold(t, d, list{1, 2}, list{0, 0}, 5)
	want(t, d.Sync(1), api.OK)
	wantTold(t, d, list{1, 2}, list{3, 0}, 5)
	add(t, d, 1, "fg")
	wantTold(t, d, list{1, 2}, list{3, 0}, 7)
	want(t, d.Sync(1), api.OK)
	want(t, d.Sync(1), api.OK)
	wantTold(t, d, list{1, 2}, list{5, 0}, 7)
	wantRead(t, d, 1, "abcfg")
	wantRead(t, d, 2, "de")
}

// P14.1: what is dropped is gone for good, synced or not; a new segment of its number has nothing of it.
func TestDrop(t *testing.T) {
	d := New(100)
	add(t, d, 1, "abc")
	add(t, d, 2, "de")
	want(t, d.Sync(1), api.OK)
	want(t, d.Drop(0), api.ErrNone)
	want(t, d.Drop(3), api.ErrNone)
	wantTold(t, d, list{1, 2}, list{3, 0}, 5)
	want(t, d.Drop(1), api.OK)
	wantTold(t, d, list{2}, list{0}, 2)
	wantNoRead(t, d, 1, api.ErrNone)
	want(t, d.Drop(1), api.ErrNone)
	want(t, d.Sync(1), api.ErrNone)
	if d.Synced(1) != 0 || d.Spoil(1, 0, 1) {
		t.Error("something is left of it")
	}
	add(t, d, 1, "x")
	wantRead(t, d, 1, "x")
	wantTold(t, d, list{1, 2}, list{0, 0}, 3)
	want(t, d.Drop(1), api.OK)
	d.Crash(list{9})
	wantNoRead(t, d, 1, api.ErrNone)
	wantTold(t, d, list{2}, list{2}, 2)
}

// P14.1: Read answers all bytes, synced or not, and changes nothing.
func TestRead(t *testing.T) {
	d := New(100)
	wantNoRead(t, d, 0, api.ErrNone)
	add(t, d, 0, "ab")
	want(t, d.Sync(0), api.OK)
	add(t, d, 0, "cd")
	d.SetFuse(0)
	for range 3 {
		wantRead(t, d, 0, "abcd")
		wantNoRead(t, d, 1, api.ErrNone)
	}
	wantTold(t, d, list{0}, list{2}, 4)
	wantDown(t, d, false)
}

// P14.1: of a disk that is down Append, Sync, Drop and Read answer ErrLost, ahead of all else, and change nothing.
func TestDown(t *testing.T) {
	d := New(4)
	add(t, d, 1, "ab")
	want(t, d.Sync(1), api.OK)
	add(t, d, 1, "c")
	d.SetFuse(0)
	want(t, d.Append(1, []byte("d")), api.ErrLost)
	for _, fuse := range []int{-1, 5, 0} {
		wantDown(t, d, true)
		want(t, d.Append(1, []byte("d")), api.ErrLost)
		want(t, d.Append(2, nil), api.ErrLost)
		want(t, d.Append(-1, []byte("d")), api.ErrLost)
		want(t, d.Append(1, []byte("defgh")), api.ErrLost)
		want(t, d.Sync(1), api.ErrLost)
		want(t, d.Sync(2), api.ErrLost)
		want(t, d.Drop(1), api.ErrLost)
		want(t, d.Drop(2), api.ErrLost)
		wantNoRead(t, d, 1, api.ErrLost)
		wantNoRead(t, d, 2, api.ErrLost)
		wantTold(t, d, list{1}, list{2}, 3)
		// Neither brings it up.
		d.SetFuse(fuse)
		d.SetRoom(100)
	}
	d.Crash(list{1})
	wantRead(t, d, 1, "abc")
}

// P14.1: each error ahead of those that the chapter names behind it.
func TestErrorsInOrder(t *testing.T) {
	d := New(2)
	add(t, d, 1, "a")
	d.SetFuse(0)
	// The number, ahead of the room and of the fuse; the room, and that there is no segment, ahead of the fuse.
	want(t, d.Append(-1, []byte("bcd")), api.ErrArg)
	want(t, d.Append(1, []byte("bc")), api.ErrFull)
	want(t, d.Sync(2), api.ErrNone)
	want(t, d.Drop(2), api.ErrNone)
	wantDown(t, d, false)
	want(t, d.Append(1, []byte("b")), api.ErrLost)
	wantDown(t, d, true)
	// That it is down, ahead of all.
	want(t, d.Append(-1, []byte("bcd")), api.ErrLost)
	want(t, d.Append(1, []byte("bc")), api.ErrLost)
	want(t, d.Sync(2), api.ErrLost)
	want(t, d.Drop(2), api.ErrLost)
	wantTold(t, d, list{1}, list{0}, 1)
}

// Words, P14.1: the operation behind a fuse's n ones isn't done, of whatever kind it is, and changes nothing but that it is down.
func TestFuseEnds(t *testing.T) {
	last := []func(d *Disk) api.Errno{
		func(d *Disk) api.Errno { return d.Append(1, []byte("x")) },
		func(d *Disk) api.Errno { return d.Append(8, []byte("x")) },
		func(d *Disk) api.Errno { return d.Append(8, nil) },
		func(d *Disk) api.Errno { return d.Sync(1) },
		func(d *Disk) api.Errno { return d.Drop(1) },
	}
	for n := range 9 {
		for kind, operation := range last {
			d := New(1000)
			add(t, d, 1, "abc")
			want(t, d.Sync(1), api.OK)
			add(t, d, 1, "de")
			d.SetFuse(n)
			for k := range n {
				switch k % 3 {
				case 0:
					add(t, d, 2, "fg")
				case 1:
					want(t, d.Sync(2), api.OK)
				case 2:
					want(t, d.Drop(2), api.OK)
				}
			}
			wantDown(t, d, false)
			numbers, synced, used := list{1, 2}, list{3, n % 3 / 2 * 2}, 7
			if n%3 == 0 {
				numbers, used = list{1}, 5
			}
			wantTold(t, d, numbers, synced, used)
			wantRead(t, d, 1, "abcde")
			if no := operation(d); no != api.ErrLost {
				t.Errorf("fuse %d, operation %d: %d", n, kind, int(no))
			}
			wantDown(t, d, true)
			wantTold(t, d, numbers, synced, used)
			d.Crash(list{9})
			wantRead(t, d, 1, "abcde")
		}
	}
}

// Words, P14.1: what is refused is not done, so it burns nothing of the fuse; nor do the calls that are no operations.
func TestRefusedBurnsNothing(t *testing.T) {
	d := New(4)
	add(t, d, 1, "ab")
	d.SetFuse(2)
	for range 5 {
		want(t, d.Append(-1, nil), api.ErrArg)
		want(t, d.Append(1, []byte("cde")), api.ErrFull)
		want(t, d.Sync(2), api.ErrNone)
		want(t, d.Drop(2), api.ErrNone)
		wantRead(t, d, 1, "ab")
		wantTold(t, d, list{1}, list{0}, 2)
		d.SetRoom(4)
		if !d.Spoil(1, 0, 0) || d.Spoil(1, 2, 0) {
			t.Error("Spoil")
		}
	}
	want(t, d.Append(1, nil), api.OK)
	want(t, d.Sync(1), api.OK)
	wantDown(t, d, false)
	want(t, d.Drop(1), api.ErrLost)
	wantDown(t, d, true)
}

// P14.2: a fuse stands for the one ahead of it; below 0 there is none.
func TestSetFuse(t *testing.T) {
	d := New(1000)
	for _, n := range []int{-1, -2, math.MinInt} {
		d.SetFuse(0)
		d.SetFuse(n)
		for range 50 {
			add(t, d, 1, "a")
		}
	}
	d.SetFuse(1)
	add(t, d, 1, "a")
	d.SetFuse(3)
	for range 3 {
		want(t, d.Sync(1), api.OK)
	}
	d.SetFuse(1)
	d.SetFuse(0)
	want(t, d.Sync(1), api.ErrLost)
	wantDown(t, d, true)
	d.Crash(nil)
	d.SetFuse(math.MaxInt)
	for range 50 {
		add(t, d, 1, "a")
	}
	wantDown(t, d, false)
}

// P14.2: SetRoom is the room from then on; what is there stays, even if it is more, but nothing comes to it.
func TestSetRoom(t *testing.T) {
	d := New(3)
	add(t, d, 1, "abc")
	want(t, d.Append(1, []byte("d")), api.ErrFull)
	d.SetRoom(4)
	add(t, d, 1, "d")
	want(t, d.Append(1, []byte("e")), api.ErrFull)
	for _, n := range []int{3, 0, -1, math.MinInt} {
		d.SetRoom(n)
		wantRead(t, d, 1, "abcd")
		// Used would be above the room, although nothing comes to it.
		want(t, d.Append(1, nil), api.ErrFull)
		want(t, d.Append(2, nil), api.ErrFull)
		wantTold(t, d, list{1}, list{d.Synced(1)}, 4)
		want(t, d.Sync(1), api.OK)
	}
	want(t, d.Drop(1), api.OK)
	want(t, d.Append(1, []byte("a")), api.ErrFull)
	want(t, d.Append(1, nil), api.OK)
	d.SetRoom(1)
	add(t, d, 1, "a")
}

// P14.2: numbers rise, in whatever order the segments came.
func TestSegmentsRise(t *testing.T) {
	d := New(1000)
	numbers := list{5, 0, math.MaxInt, 3, 100, 4, 2, 1 << 40, 10}
	for _, number := range numbers {
		add(t, d, number, "a")
	}
	slices.Sort(numbers)
	wantTold(t, d, numbers, make(list, 9), 9)
	want(t, d.Drop(4), api.OK)
	wantTold(t, d, list{0, 2, 3, 5, 10, 100, 1 << 40, math.MaxInt}, make(list, 8), 8)
}

// P14.2: what is told of a disk that is down is as it was.
func TestToldWhileDown(t *testing.T) {
	d := New(10)
	add(t, d, 4, "abc")
	want(t, d.Sync(4), api.OK)
	add(t, d, 4, "d")
	add(t, d, 2, "e")
	d.SetFuse(0)
	want(t, d.Sync(2), api.ErrLost)
	wantTold(t, d, list{2, 4}, list{0, 3}, 5)
	if d.Synced(3) != 0 {
		t.Error("a segment that there isn't")
	}
}

// crashed is a disk behind a crash: segments 2, 3, 7 and 20 with 0, 1, 2 and 3 bytes that are synced, and four each that aren't.
func crashed(t *testing.T, keep list) *Disk {
	t.Helper()
	d := New(100)
	for i, number := range []int{20, 7, 3, 2} {
		add(t, d, number, "abc"[i:])
		want(t, d.Sync(number), api.OK)
		add(t, d, number, "wxyz")
	}
	d.Crash(keep)
	return d
}

// P14.3: what a crash keeps, by the segments' places among those that there are, not by their numbers.
func TestCrashKeeps(t *testing.T) {
	for _, c := range []struct {
		keep         list
		two, three   string
		seven, score string
	}{
		{nil, "", "c", "bc", "abc"},
		{list{}, "", "c", "bc", "abc"},
		{list{0}, "", "c", "bc", "abc"},
		{list{1}, "w", "cw", "bcw", "abcw"},
		{list{3}, "wxy", "cwxy", "bcwxy", "abcwxy"},
		{list{4}, "wxyz", "cwxyz", "bcwxyz", "abcwxyz"},
		{list{5}, "wxyz", "cwxyz", "bcwxyz", "abcwxyz"},
		{list{math.MaxInt}, "wxyz", "cwxyz", "bcwxyz", "abcwxyz"},
		{list{-1}, "", "c", "bc", "abc"},
		{list{math.MinInt}, "", "c", "bc", "abc"},
		{list{1, 2}, "w", "cwx", "bcw", "abcwx"},
		{list{1, 2, 3}, "w", "cwx", "bcwxy", "abcw"},
		{list{4, 3, 2, 1}, "wxyz", "cwxy", "bcwx", "abcw"},
		{list{1, -1, 9, 0}, "w", "c", "bcwxyz", "abc"},
		{list{0, 1, 2, 3, 4, 4, 4}, "", "cw", "bcwx", "abcwxy"},
		{list{0, math.MaxInt, math.MinInt, 2}, "", "cwxyz", "bc", "abcwx"},
	} {
		d := crashed(t, c.keep)
		numbers, synced, used := list{}, list{}, 0
		for i, s := range []string{c.two, c.three, c.seven, c.score} {
			number := []int{2, 3, 7, 20}[i]
			if s == "" {
				wantNoRead(t, d, number, api.ErrNone)
				continue
			}
			wantRead(t, d, number, s)
			numbers, synced, used = append(numbers, number), append(synced, len(s)), used+len(s)
		}
		wantTold(t, d, numbers, synced, used)
	}
}

// P14.3: segments of which no byte is kept are gone, also those without bytes that were synced.
func TestCrashWithoutBytes(t *testing.T) {
	d := New(10)
	want(t, d.Append(1, nil), api.OK)
	want(t, d.Sync(1), api.OK)
	want(t, d.Append(2, nil), api.OK)
	add(t, d, 3, "a")
	add(t, d, 4, "b")
	// The places are those ahead of the crash: 4 is at 3.
	d.Crash(list{9, 9, 0, 1})
	wantTold(t, d, list{4}, list{1}, 1)
	for number := range 4 {
		wantNoRead(t, d, number, api.ErrNone)
		want(t, d.Sync(number), api.ErrNone)
	}
	d.Crash(nil)
	wantTold(t, d, list{4}, list{1}, 1)
	want(t, d.Append(1, nil), api.OK)
	wantTold(t, d, list{1, 4}, list{0, 1}, 1)
}

// P14.3: behind a crash it is up, without a fuse, whether it was down or not; the room is as it was.
func TestBehindCrash(t *testing.T) {
	d := New(6)
	d.Crash(list{1})
	wantTold(t, d, nil, nil, 0)
	for _, fuse := range []int{0, 1, 2, -1} {
		add(t, d, 1, "ab")
		d.SetFuse(fuse)
		d.Append(1, []byte("c"))
		d.Append(1, []byte("d"))
		d.Crash(list{9})
		wantDown(t, d, false)
		for range 10 {
			want(t, d.Sync(1), api.OK)
		}
		want(t, d.Append(1, []byte("abcdefg")), api.ErrFull)
		want(t, d.Drop(1), api.OK)
	}
}

// P14.3: a crash behind a crash loses nothing more; what comes behind one can be lost again.
func TestCrashAgain(t *testing.T) {
	d := New(100)
	add(t, d, 1, "abcd")
	add(t, d, 2, "efgh")
	d.Crash(list{3, 1})
	for range 3 {
		d.Crash(nil)
		wantTold(t, d, list{1, 2}, list{3, 1}, 4)
	}
	add(t, d, 1, "XY")
	wantRead(t, d, 1, "abcXY")
	wantTold(t, d, list{1, 2}, list{3, 1}, 6)
	d.Crash(list{1})
	wantRead(t, d, 1, "abcX")
	wantRead(t, d, 2, "e")
	d.Crash(list{0})
	wantRead(t, d, 1, "abcX")
}

// P14.3: Spoil xors one byte, synced or not, and nothing else is another.
func TestSpoil(t *testing.T) {
	d := New(100)
	add(t, d, 1, "abc")
	want(t, d.Sync(1), api.OK)
	add(t, d, 1, "de")
	add(t, d, 0, "abc")
	for _, c := range []struct {
		at   int
		by   byte
		told string
	}{{0, 1, "`bcde"}, {4, 0xff, "`bcd\x9a"}, {2, 0x80, "`b\xe3d\x9a"}, {2, 0x80, "`bcd\x9a"}, {3, 0, "`bcd\x9a"}, {0, '`', "\x00bcd\x9a"}} {
		if !d.Spoil(1, c.at, c.by) {
			t.Error("Spoil", c)
		}
		wantRead(t, d, 1, c.told)
		wantTold(t, d, list{0, 1}, list{0, 3}, 8)
	}
	wantRead(t, d, 0, "abc")
	d.Crash(list{0, 1})
	wantRead(t, d, 1, "\x00bcd")
}

// P14.3: where there is no such byte Spoil answers false, and nothing is another.
func TestSpoilNothing(t *testing.T) {
	d := New(100)
	add(t, d, 1, "abc")
	want(t, d.Append(2, nil), api.OK)
	for _, at := range []int{-1, 3, 4, math.MaxInt, math.MinInt} {
		if d.Spoil(1, at, 1) {
			t.Error(at)
		}
	}
	for _, number := range []int{0, 2, 3, -1, math.MaxInt, math.MinInt} {
		if d.Spoil(number, 0, 1) {
			t.Error(number)
		}
	}
	wantRead(t, d, 1, "abc")
	wantTold(t, d, list{1, 2}, list{0, 0}, 3)
	// A byte that a crash lost is none any more.
	d.Crash(list{2})
	if d.Spoil(1, 2, 1) || !d.Spoil(1, 1, 1) {
		t.Error("behind a crash")
	}
}

// P14.3: Spoil is done on a disk that is down too, and with a fuse that would end.
func TestSpoilWhileDown(t *testing.T) {
	d := New(100)
	add(t, d, 1, "abc")
	d.SetFuse(0)
	if !d.Spoil(1, 0, 1) {
		t.Error("with a fuse")
	}
	wantDown(t, d, false)
	want(t, d.Sync(1), api.ErrLost)
	if !d.Spoil(1, 1, 1) || d.Spoil(1, 3, 1) {
		t.Error("while it is down")
	}
	d.Crash(list{3})
	wantRead(t, d, 1, "`cc")
}
