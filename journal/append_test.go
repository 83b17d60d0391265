package journal

import (
	"math"
	"strings"
	"testing"

	"tumbrel/api"
	"tumbrel/disk"
)

// run is a text of n bytes.
func run(n int) string { return strings.Repeat("r", n) }

// P15.2: a record stands sealed, behind the byte 0, at the end of the last segment, and is synced by then.
func TestAppend(t *testing.T) {
	d := disk.New(plenty)
	j := open(t, d)
	raw := ""
	var records texts
	for i, s := range []string{"a", "\x00", "\x01", "\x02", "\xff\xfe", "a", "longer than one"} {
		want(t, j.Append([]byte(s)), api.OK)
		raw += record(t, s)
		records = append(records, s)
		wantSegments(t, d, 0)
		wantRaw(t, d, 0, raw)
		wantRecords(t, j, i+1)
		open(t, d, records...)
	}
	d.Crash(nil)
	open(t, d, records...)
}

// P15.2: how long a record may be.
func TestAppendLengths(t *testing.T) {
	for _, n := range []int{1, 2, 255, 256, api.Segment - 7, 5000, api.MaxRecord - 2, api.MaxRecord - 1} {
		d := disk.New(plenty)
		j := open(t, d)
		want(t, j.Append([]byte(run(n))), api.OK)
		open(t, d, run(n))
	}
	d := disk.New(plenty)
	j := open(t, d)
	d.SetFuse(0)
	for _, b := range [][]byte{nil, {}} {
		want(t, j.Append(b), api.ErrArg)
	}
	for _, n := range []int{api.MaxRecord, api.MaxRecord + 1, 65535, 65536, 65537, 1 << 22} {
		want(t, j.Append([]byte(run(n))), api.ErrLong)
	}
	wantSegments(t, d)
	wantRecords(t, j, 0)
	// Nothing was asked of the disk, and the journal isn't over.
	d.SetFuse(2)
	want(t, j.Append([]byte("a")), api.OK)
	open(t, d, "a")
}

// P15.2: a segment with Segment bytes or more takes no further record, one with a byte less does, whatever its length; so it is of a journal that is opened anew.
func TestAppendGoesOn(t *testing.T) {
	for _, again := range []bool{false, true} {
		for _, size := range []int{api.Segment - 1, api.Segment, api.Segment + 1, api.Segment + 6} {
			d := disk.New(plenty)
			j := open(t, d)
			first := "a"
			second := run(size - len(record(t, first)) - 7)
			want(t, j.Append([]byte(first)), api.OK)
			want(t, j.Append([]byte(second)), api.OK)
			wantRaw(t, d, 0, record(t, first)+record(t, second))
			if d.Used() != size {
				t.Fatal(d.Used())
			}
			if again {
				j = open(t, d, first, second)
			}
			third := run(api.MaxRecord - 1)
			want(t, j.Append([]byte(third)), api.OK)
			if size < api.Segment {
				wantSegments(t, d, 0)
				wantRaw(t, d, 0, record(t, first)+record(t, second)+record(t, third))
			} else {
				wantSegments(t, d, 0, 1)
				wantRaw(t, d, 1, record(t, third))
			}
			open(t, d, first, second, third)
		}
	}
}

// P15.2: many records fill segment after segment; what is counted of a new one begins with it.
func TestAppendMany(t *testing.T) {
	d := disk.New(plenty)
	j := open(t, d)
	var records texts
	sizes := []int{0}
	for i := range 500 {
		s := run(1 + i*37%400)
		want(t, j.Append([]byte(s)), api.OK)
		records = append(records, s)
		last := len(sizes) - 1
		if sizes[last] >= api.Segment {
			sizes = append(sizes, 0)
			last++
		}
		sizes[last] += len(record(t, s))
		if i%50 == 49 {
			j = open(t, d, records...)
		}
	}
	if len(d.Segments()) != len(sizes) || len(sizes) < 20 {
		t.Fatal(len(d.Segments()), len(sizes))
	}
	for number, size := range sizes {
		if b, _ := d.Read(number); len(b) != size {
			t.Errorf("segment %d has %d bytes, want %d", number, len(b), size)
		}
	}
}

// P15.2: behind bytes that say nothing comes a new segment; what is behind that goes on in it.
func TestAppendBehindTorn(t *testing.T) {
	whole := record(t, "torn")
	for size := 1; size < len(whole); size++ {
		for _, ahead := range []string{"", record(t, "a"), record(t, "a") + record(t, "b")} {
			d := disk.New(plenty)
			layRaw(t, d, 6, ahead+whole[:size])
			_, l, _ := Open(d)
			j := open(t, d, told(l)...)
			want(t, j.Append([]byte("x")), api.OK)
			want(t, j.Append([]byte("y")), api.OK)
			wantRaw(t, d, 6, ahead+whole[:size])
			wantRaw(t, d, 7, record(t, "x")+record(t, "y"))
			open(t, d, append(told(l), "x", "y")...)
		}
	}
	// Whether an earlier segment is torn says nothing of the last one.
	d := disk.New(plenty)
	layRaw(t, d, 0, whole[:5])
	lay(t, d, 1, "\x00a")
	j := open(t, d, "a")
	want(t, j.Append([]byte("b")), api.OK)
	wantSegments(t, d, 0, 1)
}

// P15.2: the number of a new segment is the next one, or 0, if there is none, also where an unfinished one was dropped.
func TestNextNumber(t *testing.T) {
	d := disk.New(plenty)
	lay(t, d, 5, begin, "\x00a")
	j := open(t, d)
	want(t, j.Append([]byte("b")), api.OK)
	wantSegments(t, d, 0)
	wantRaw(t, d, 0, record(t, "b"))
	d = disk.New(plenty)
	layRaw(t, d, 5, record(t, run(api.Segment)))
	lay(t, d, 6, begin, "\x00a")
	j = open(t, d, run(api.Segment))
	want(t, j.Append([]byte("b")), api.OK)
	wantSegments(t, d, 5, 6)
	wantRaw(t, d, 6, record(t, "b"))
	// A segment without bytes takes records.
	d = disk.New(plenty)
	lay(t, d, 5)
	j = open(t, d)
	want(t, j.Append([]byte("b")), api.OK)
	wantSegments(t, d, 5)
}

// Behind the greatest number there is none: nothing is there any more than would be if the disk were full.
func TestGreatestNumber(t *testing.T) {
	d := disk.New(plenty)
	lay(t, d, math.MaxInt, "\x00a")
	j := open(t, d, "a")
	want(t, j.Replace(list("x")), api.ErrFull)
	want(t, j.Append([]byte(run(api.Segment))), api.OK)
	want(t, j.Append([]byte("b")), api.ErrFull)
	want(t, j.Replace(nil), api.ErrFull)
	wantRecords(t, j, 2)
	wantSegments(t, d, math.MaxInt)
	open(t, d, "a", run(api.Segment))
	d = disk.New(plenty)
	lay(t, d, math.MaxInt-1, "\x00a")
	j = open(t, d, "a")
	want(t, j.Replace(list("x")), api.OK)
	wantSegments(t, d, math.MaxInt)
	want(t, j.Append([]byte("y")), api.OK)
	open(t, d, "x", "y")
}

// P15.2: if the disk is full, nothing has changed, and the journal isn't over; the room is used to its last byte.
func TestAppendFull(t *testing.T) {
	size := len(record(t, "a"))
	d := disk.New(2*size + 3)
	j := open(t, d)
	want(t, j.Append([]byte("a")), api.OK)
	d.SetFuse(2)
	want(t, j.Append([]byte(run(5))), api.ErrFull)
	wantRecords(t, j, 1)
	wantRaw(t, d, 0, record(t, "a"))
	want(t, j.Append([]byte(run(4))), api.OK)
	want(t, j.Append([]byte("a")), api.ErrFull)
	if d.Used() != 2*size+3 || d.Down() {
		t.Error(d.Used(), d.Down())
	}
	// So it is of a new segment.
	d = disk.New(plenty)
	j = open(t, d)
	want(t, j.Append([]byte(run(api.Segment))), api.OK)
	d.SetRoom(d.Used() + size)
	want(t, j.Append([]byte("ab")), api.ErrFull)
	wantSegments(t, d, 0)
	want(t, j.Append([]byte("a")), api.OK)
	wantSegments(t, d, 0, 1)
	open(t, d, run(api.Segment), "a")
}

// P15.2: what is lost, at the disk's Append and at its Sync, ends the journal; it stays so when the disk is up again.
func TestAppendLost(t *testing.T) {
	for fuse, keeps := range [][]int{{0, 100}, {0, 1, 7, 100}} {
		for _, keep := range keeps {
			d := disk.New(plenty)
			j := open(t, d)
			want(t, j.Append([]byte("a")), api.OK)
			d.SetFuse(fuse)
			want(t, j.Append([]byte("b")), api.ErrLost)
			wantOver(t, d, j, 1)
			d.Crash([]int{keep})
			wantOver(t, d, j, 1)
			if fuse == 1 && keep == 100 {
				open(t, d, "a", "b")
			} else {
				open(t, d, "a")
			}
		}
	}
}

// wantOver fails unless all calls of the journal answer ErrLost, whatever they are given, and nothing is changed.
func wantOver(t *testing.T, d *disk.Disk, j *Journal, records int) {
	t.Helper()
	numbers, used := d.Segments(), d.Used()
	for _, b := range [][]byte{[]byte("c"), nil, make([]byte, api.MaxRecord)} {
		want(t, j.Append(b), api.ErrLost)
		want(t, j.Replace([][]byte{b}), api.ErrLost)
	}
	want(t, j.Replace(nil), api.ErrLost)
	wantRecords(t, j, records)
	wantSegments(t, d, numbers...)
	if d.Used() != used {
		t.Error(d.Used(), used)
	}
}

// P15.2, R6: what is asked of the record is asked ahead of the disk, and how many segments there would be ahead of what the disk says.
func TestAppendErrorsInOrder(t *testing.T) {
	d := disk.New(plenty)
	j := open(t, d)
	want(t, j.Append([]byte(run(api.Segment))), api.OK)
	d.SetFuse(0)
	want(t, d.Sync(0), api.ErrLost)
	// The disk is down, but the journal isn't over by then.
	want(t, j.Append(nil), api.ErrArg)
	want(t, j.Append(make([]byte, api.MaxRecord)), api.ErrLong)
	want(t, j.Replace(list("a", "")), api.ErrArg)
	d.Crash(nil)
	want(t, j.Append([]byte("b")), api.OK)
	d.SetFuse(0)
	d.SetRoom(0)
	// The room is asked of ahead of the fuse.
	want(t, j.Append([]byte("c")), api.ErrFull)
	d.SetRoom(plenty)
	want(t, j.Append([]byte("c")), api.ErrLost)
	want(t, j.Append(nil), api.ErrLost)
}

// crowd is a disk with so many segments, from number 2 on, each with the record s, the last with Segment bytes and more if full.
func crowd(t *testing.T, count int, full bool) (*disk.Disk, texts) {
	t.Helper()
	d := disk.New(plenty)
	var records texts
	for i := range count {
		s := "s"
		if full && i == count-1 {
			s = run(api.Segment)
		}
		lay(t, d, 2+i, "\x00"+s)
		records = append(records, s)
	}
	return d, records
}

// P15.2, P15.3: there are at most MaxSegments, a new one counted; what is there is read however many it is.
func TestMaxSegments(t *testing.T) {
	d, records := crowd(t, api.MaxSegments-1, true)
	j := open(t, d, records...)
	want(t, j.Append([]byte("a")), api.OK)
	want(t, j.Append([]byte(run(api.Segment))), api.OK)
	if n := len(d.Segments()); n != api.MaxSegments {
		t.Fatal(n)
	}
	d.SetFuse(0)
	want(t, j.Append([]byte("b")), api.ErrFull)
	want(t, j.Replace(nil), api.ErrFull)
	want(t, j.Replace(list("a")), api.ErrFull)
	want(t, j.Replace(list("")), api.ErrArg)
	want(t, j.Append(nil), api.ErrArg)
	// It is asked of ahead of what the disk says, which is down now.
	want(t, d.Sync(2), api.ErrLost)
	want(t, j.Append([]byte("b")), api.ErrFull)
	want(t, j.Replace(nil), api.ErrFull)
	d.Crash(nil)
	want(t, j.Append([]byte("b")), api.ErrFull)
	wantRecords(t, j, api.MaxSegments+1)
	open(t, d, append(records, "a", run(api.Segment))...)

	d, records = crowd(t, api.MaxSegments, false)
	j = open(t, d, records...)
	want(t, j.Replace(nil), api.ErrFull)
	want(t, j.Append([]byte("a")), api.OK)
	open(t, d, append(records, "a")...)

	d, records = crowd(t, api.MaxSegments-1, true)
	j = open(t, d, records...)
	want(t, j.Replace(list("x")), api.OK)
	wantSegments(t, d, 2+api.MaxSegments-1)
	want(t, j.Append([]byte("y")), api.OK)
	open(t, d, "x", "y")
}

// What more segments hold than a journal makes is told, but nothing comes to them, since there would be more than MaxSegments.
func TestMoreThanMaxSegments(t *testing.T) {
	d, records := crowd(t, api.MaxSegments+1, false)
	j := open(t, d, records...)
	want(t, j.Append([]byte("a")), api.ErrFull)
	want(t, j.Replace(list("a")), api.ErrFull)
	open(t, d, records...)
}
