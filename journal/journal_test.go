package journal

import (
	"math"
	"slices"
	"strings"
	"testing"

	"tumbrel/api"
	"tumbrel/disk"
	"tumbrel/seal"
)

// texts is records, or payloads.
type texts = []string

// BEGIN and END as payloads.
const (
	begin = "\x01"
	end   = "\x02"
)

// plenty is room enough for all that isn't about the room.
const plenty = 1 << 40

// want fails unless a call answered the error.
func want(t *testing.T, got, no api.Errno) {
	t.Helper()
	if got != no {
		t.Errorf("answered %d, want %d", int(got), int(no))
	}
}

// payload is a sealed record.
func payload(t *testing.T, s string) string {
	t.Helper()
	b, no := seal.Seal([]byte(s))
	if no != api.OK {
		t.Fatalf("Seal of %d bytes: %d", len(s), int(no))
	}
	return string(b)
}

// record is a record's sealed record.
func record(t *testing.T, s string) string {
	t.Helper()
	return payload(t, "\x00"+s)
}

// lay has the segment have these payloads, sealed, behind what is there, all of it synced.
func lay(t *testing.T, d *disk.Disk, number int, payloads ...string) {
	t.Helper()
	raw := ""
	for _, s := range payloads {
		raw += payload(t, s)
	}
	layRaw(t, d, number, raw)
}

// layRaw has the segment have these bytes behind what is there, all of it synced.
func layRaw(t *testing.T, d *disk.Disk, number int, raw string) {
	t.Helper()
	want(t, d.Append(number, []byte(raw)), api.OK)
	want(t, d.Sync(number), api.OK)
}

// open opens what must be right, with these records.
func open(t *testing.T, d *disk.Disk, records ...string) *Journal {
	t.Helper()
	j, l, no := Open(d)
	if no != api.OK || j == nil {
		t.Fatalf("Open: %d", int(no))
	}
	wantList(t, l, records)
	wantRecords(t, j, len(records))
	return j
}

// wantList fails unless the list is these records.
func wantList(t *testing.T, l [][]byte, records texts) {
	t.Helper()
	if got := told(l); !slices.Equal(got, records) {
		t.Fatalf("records %s, want %s", short(got), short(records))
	}
}

// told is a list's records as texts.
func told(l [][]byte) texts {
	var records texts
	for _, r := range l {
		records = append(records, string(r))
	}
	return records
}

// list is texts as a list of records.
func list(records ...string) [][]byte {
	var l [][]byte
	for _, s := range records {
		l = append(l, []byte(s))
	}
	return l
}

// short is records for a message: of long ones their beginnings.
func short(records texts) string {
	var s texts
	for _, r := range records {
		s = append(s, r[:min(len(r), 20)])
	}
	return "[" + strings.Join(s, " ") + "]"
}

// wantRecords fails unless the journal tells so many records.
func wantRecords(t *testing.T, j *Journal, n int) {
	t.Helper()
	if got := j.Records(); got != n {
		t.Errorf("Records() = %d, want %d", got, n)
	}
}

// wantRefused fails unless Open answers the error, and nothing beside it.
func wantRefused(t *testing.T, d *disk.Disk, no api.Errno) {
	t.Helper()
	if j, l, got := Open(d); j != nil || len(l) != 0 || got != no {
		t.Errorf("Open: %v, %d records, %d; want %d", j, len(l), int(got), int(no))
	}
}

// wantSegments fails unless the disk has these segments.
func wantSegments(t *testing.T, d *disk.Disk, numbers ...int) {
	t.Helper()
	if got := d.Segments(); !slices.Equal(got, numbers) {
		t.Errorf("segments %v, want %v", got, numbers)
	}
}

// wantRaw fails unless the segment's bytes are these, all synced.
func wantRaw(t *testing.T, d *disk.Disk, number int, raw string) {
	t.Helper()
	b, no := d.Read(number)
	if string(b) != raw || no != api.OK || d.Synced(number) != len(raw) {
		t.Errorf("segment %d: %d bytes, %d synced, %d; want %d", number, len(b), d.Synced(number), int(no), len(raw))
	}
}

// The chapter's example.
func TestExample(t *testing.T) {
	d := disk.New(plenty)
	j := open(t, d)
	want(t, j.Append([]byte("a")), api.OK)
	want(t, j.Append([]byte("b")), api.OK)
	want(t, j.Replace(list("c")), api.OK)
	want(t, j.Append([]byte("d")), api.OK)
	wantSegments(t, d, 1)
	wantRaw(t, d, 1, payload(t, begin)+record(t, "c")+payload(t, end)+record(t, "d"))
	wantRecords(t, j, 2)
	open(t, d, "c", "d")
}

// P15.1: without a disk there is no journal; of an empty disk it is empty, and opening it changes nothing.
func TestOpenEmpty(t *testing.T) {
	wantRefused(t, nil, api.ErrArg)
	d := disk.New(0)
	d.SetFuse(0)
	open(t, d)
	open(t, new(disk.Disk))
	wantSegments(t, d)
	if d.Down() {
		t.Error("the disk is down")
	}
}

// P15.1: a read that is lost, ahead of what is wrong. Where there are no segments none is read.
func TestOpenDown(t *testing.T) {
	for _, payloads := range []texts{{"\x00a"}, {"\x03"}, {begin, "\x00a"}} {
		d := disk.New(plenty)
		lay(t, d, 3, payloads...)
		lay(t, d, 5, "\x00b")
		d.SetFuse(0)
		want(t, d.Append(9, []byte("x")), api.ErrLost)
		wantRefused(t, d, api.ErrLost)
		wantSegments(t, d, 3, 5)
	}
	d := disk.New(plenty)
	d.SetFuse(0)
	want(t, d.Append(9, []byte("x")), api.ErrLost)
	j := open(t, d)
	want(t, j.Append([]byte("a")), api.ErrLost)
}

// Words: which records a journal has, with the segments that Open leaves: segments stand one behind the other from number 4 on.
func TestWhichRecords(t *testing.T) {
	torn := record(t, "torn")[:8]
	cases := []struct {
		name     string
		segments []texts
		tails    map[int]string
		records  texts
		left     []int
	}{
		{"records", []texts{{"\x00a", "\x00b"}, {"\x00c"}}, nil, texts{"a", "b", "c"}, []int{4, 5}},
		{"alike", []texts{{"\x00a", "\x00a"}, {"\x00a"}}, nil, texts{"a", "a", "a"}, []int{4, 5}},
		{"of all bytes", []texts{{"\x00\x00", "\x00\x01", "\x00\x02", "\x00\x02x"}}, nil, texts{"\x00", "\x01", "\x02", "\x02x"}, []int{4}},
		{"a segment without bytes", []texts{{"\x00a"}, {}, {"\x00b"}}, nil, texts{"a", "b"}, []int{4, 5, 6}},
		{"torn ends", []texts{{"\x00a"}, {}, {"\x00b"}}, map[int]string{0: torn, 1: torn[:1], 2: torn[:3]}, texts{"a", "b"}, []int{4, 5, 6}},
		{"a torn BEGIN", []texts{{"\x00a"}, {}}, map[int]string{1: payload(t, begin)[:6]}, texts{"a"}, []int{4, 5}},
		{"a torn BEGIN inside", []texts{{"\x00a"}, {}, {"\x00b"}}, map[int]string{1: payload(t, begin)[:6]}, texts{"a", "b"}, []int{4, 5, 6}},
		{"a replacement", []texts{{begin, "\x00a", end}}, nil, texts{"a"}, []int{4}},
		{"records behind END", []texts{{begin, "\x00a", end, "\x00b"}, {"\x00c"}}, nil, texts{"a", "b", "c"}, []int{4, 5}},
		{"one of none", []texts{{begin, end}, {"\x00c"}}, nil, texts{"c"}, []int{4, 5}},
		{"one of none at the end", []texts{{"\x00a"}, {begin, end}}, nil, nil, []int{5}},
		{"ahead of a replacement", []texts{{"\x00a"}, {"\x00b"}, {begin, "\x00c", end, "\x00d"}, {"\x00e"}}, nil, texts{"c", "d", "e"}, []int{6, 7}},
		{"the last replacement", []texts{{begin, "\x00a", end}, {"\x00b"}, {begin, "\x00c", end}, {begin, "\x00d", end}, {"\x00e"}}, nil, texts{"d", "e"}, []int{7, 8}},
		{"a torn replacement", []texts{{"\x00a"}, {begin, "\x00b", end}}, map[int]string{1: torn}, texts{"b"}, []int{5}},
		{"unfinished", []texts{{"\x00a"}, {begin, "\x00b"}}, nil, texts{"a"}, []int{4}},
		{"unfinished, BEGIN alone", []texts{{"\x00a"}, {begin}}, nil, texts{"a"}, []int{4}},
		{"unfinished and torn", []texts{{"\x00a"}, {begin, "\x00b"}}, map[int]string{1: torn}, texts{"a"}, []int{4}},
		{"unfinished, END torn", []texts{{"\x00a"}, {begin, "\x00b"}}, map[int]string{1: payload(t, end)[:6]}, texts{"a"}, []int{4}},
		{"unfinished, alone", []texts{{begin, "\x00b"}}, nil, nil, nil},
		{"unfinished behind a replacement", []texts{{"\x00a"}, {begin, "\x00b", end}, {"\x00c"}, {begin, "\x00d"}}, nil, texts{"b", "c"}, []int{5, 6}},
	}
	for _, c := range cases {
		d := disk.New(plenty)
		for i, payloads := range c.segments {
			lay(t, d, 4+i, payloads...)
			layRaw(t, d, 4+i, c.tails[i])
		}
		j, l, no := Open(d)
		if no != api.OK || !slices.Equal(told(l), c.records) || j.Records() != len(c.records) || !slices.Equal(d.Segments(), c.left) {
			t.Errorf("%s: %d, %s, segments %v", c.name, int(no), short(told(l)), d.Segments())
		}
		// Opened again it is the same, and nothing is left to drop.
		d.SetFuse(0)
		open(t, d, c.records...)
		wantSegments(t, d, c.left...)
	}
}

// Words, P15.1: what is wrong, wherever it stands, also ahead of the base; Open drops nothing then.
func TestWrong(t *testing.T) {
	cases := []struct {
		name     string
		payloads texts
	}{
		{"a record without bytes", texts{"\x00"}},
		{"BEGIN that isn't alone", texts{"\x01a", "\x00a", end}},
		{"END that isn't alone", texts{begin, "\x00a", "\x02\x02"}},
		{"another payload", texts{"\x03"}},
		{"another payload, longer", texts{"\xffabc"}},
		{"another payload behind a record", texts{"\x00a", "\x04a"}},
		{"BEGIN behind a record", texts{"\x00a", begin}},
		{"BEGIN behind BEGIN", texts{begin, begin, end}},
		{"BEGIN behind END", texts{begin, end, begin}},
		{"BEGIN behind records behind END", texts{begin, "\x00a", end, "\x00b", begin, end}},
		{"END without BEGIN", texts{end}},
		{"END behind records without BEGIN", texts{"\x00a", end}},
		{"two ENDs", texts{begin, "\x00a", end, end}},
		{"two ENDs, a record between", texts{begin, end, "\x00a", end}},
	}
	for _, c := range cases {
		for _, tail := range []string{"", "\x00\x07", record(t, "a")[:7]} {
			wantWrong(t, c.name, func(d *disk.Disk, number int) {
				lay(t, d, number, c.payloads...)
				layRaw(t, d, number, tail)
			})
		}
	}
	raws := []string{
		"\x00\x00\x00\x00", "abcd", record(t, "a") + "\xff\xff\xff\xff", payload(t, begin) + "....", record(t, "a")[1:],
		record(t, "a")[:7] + record(t, "b"), "\x00" + record(t, "b"),
	}
	for _, raw := range raws {
		wantWrong(t, raw, func(d *disk.Disk, number int) { layRaw(t, d, number, raw) })
	}
}

// wantWrong fails unless what is laid as one segment, be it the only one, the first, the last, or one ahead of the base, is told to be wrong.
func wantWrong(t *testing.T, name string, laid func(d *disk.Disk, number int)) {
	t.Helper()
	segments := []func(d *disk.Disk, number int){
		func(d *disk.Disk, number int) { lay(t, d, number, "\x00x") },
		func(d *disk.Disk, number int) { lay(t, d, number, begin, "\x00y", end) },
		func(d *disk.Disk, number int) { lay(t, d, number, begin, "\x00z") },
	}
	for _, ways := range [][]int{{-1}, {0, -1}, {-1, 0}, {-1, 1, 0}, {1, -1}, {0, -1, 2}, {-1, 1, 2}} {
		d := disk.New(plenty)
		for i, kind := range ways {
			if kind < 0 {
				laid(d, i)
			} else {
				segments[kind](d, i)
			}
		}
		d.SetFuse(0)
		if j, l, no := Open(d); j != nil || len(l) != 0 || no != api.ErrBad {
			t.Errorf("%s, %v: %d records, %d", name, ways, len(l), int(no))
		}
		if len(d.Segments()) != len(ways) || d.Down() {
			t.Errorf("%s, %v: something is changed", name, ways)
		}
	}
}

// Words: segments whose numbers don't follow one another are wrong, whatever they hold; with which number they begin is free.
func TestNumbersFollow(t *testing.T) {
	for _, numbers := range [][]int{{0, 2}, {0, 1, 3}, {1, 3, 4}, {5, math.MaxInt}, {0, math.MaxInt}, {7, 9}} {
		d := disk.New(plenty)
		for _, number := range numbers {
			lay(t, d, number, "\x00a")
		}
		wantRefused(t, d, api.ErrBad)
		wantSegments(t, d, numbers...)
		// Also ahead of the base, and ahead of one that is unfinished.
		d = disk.New(plenty)
		for _, number := range numbers[:len(numbers)-1] {
			lay(t, d, number, "\x00a")
		}
		lay(t, d, numbers[len(numbers)-1], begin, "\x00b")
		wantRefused(t, d, api.ErrBad)
		lay(t, d, numbers[len(numbers)-1], end)
		wantRefused(t, d, api.ErrBad)
		wantSegments(t, d, numbers...)
	}
	for _, first := range []int{0, 1, 17, 1 << 40, math.MaxInt - 2} {
		d := disk.New(plenty)
		for i, s := range []string{"a", "b", "c"} {
			lay(t, d, first+i, "\x00"+s)
		}
		open(t, d, "a", "b", "c")
	}
}

// Words: one that is unfinished is wrong where it isn't the last one, also ahead of the base.
func TestUnfinishedInside(t *testing.T) {
	for _, payloads := range []texts{{begin}, {begin, "\x00a"}} {
		for _, tail := range []string{"", record(t, "a")[:7]} {
			for _, behind := range []texts{{"\x00b"}, {}, {begin}, {begin, end}} {
				d := disk.New(plenty)
				lay(t, d, 0, "\x00x")
				lay(t, d, 1, payloads...)
				layRaw(t, d, 1, tail)
				lay(t, d, 2, behind...)
				wantRefused(t, d, api.ErrBad)
				wantSegments(t, d, 0, 1, 2)
			}
		}
	}
}

// P15.1: first the unfinished one is dropped, then those ahead of the base, rising; if one is lost, Open answers so, and goes on when it is called again.
func TestOpenDrops(t *testing.T) {
	lefts := [][]int{{3, 4, 5, 6, 7}, {3, 4, 5, 6}, {4, 5, 6}, {5, 6}}
	for fuse, left := range lefts {
		d := disk.New(plenty)
		lay(t, d, 3, "\x00a")
		lay(t, d, 4, begin, "\x00b", end)
		lay(t, d, 5, begin, "\x00c", end)
		lay(t, d, 6, "\x00d")
		lay(t, d, 7, begin, "\x00e")
		d.SetFuse(fuse)
		if fuse == 3 {
			open(t, d, "c", "d")
		} else {
			wantRefused(t, d, api.ErrLost)
			// Also now it is lost: a read is answered so.
			wantRefused(t, d, api.ErrLost)
		}
		wantSegments(t, d, left...)
		if d.Down() != (fuse < 3) {
			t.Error(fuse, d.Down())
		}
		d.Crash(nil)
		j := open(t, d, "c", "d")
		wantSegments(t, d, 5, 6)
		want(t, j.Append([]byte("f")), api.OK)
		open(t, d, "c", "d", "f")
	}
}

// P15.1: Open syncs nothing, and needs no room.
func TestOpenAsksLittle(t *testing.T) {
	d := disk.New(plenty)
	want(t, d.Append(0, []byte(record(t, "a"))), api.OK)
	lay(t, d, 1, begin, "\x00b", end)
	d.SetRoom(0)
	d.SetFuse(1)
	j := open(t, d, "b")
	wantSegments(t, d, 1)
	want(t, j.Append([]byte("c")), api.ErrFull)
	d = disk.New(plenty)
	want(t, d.Append(0, []byte(record(t, "a"))), api.OK)
	open(t, d, "a")
	if d.Synced(0) != 0 {
		t.Error(d.Synced(0))
	}
}
