package journal

import (
	"testing"

	"tumbrel/api"
	"tumbrel/disk"
)

// replaced is the bytes of a replacement.
func replaced(t *testing.T, records ...string) string {
	t.Helper()
	raw := payload(t, begin)
	for _, s := range records {
		raw += record(t, s)
	}
	return raw + payload(t, end)
}

// P15.3: a replacement stands alone in a new segment, synced, and all segments ahead are gone.
func TestReplace(t *testing.T) {
	d := disk.New(plenty)
	j := open(t, d)
	number := 0
	for _, records := range []texts{{"a"}, {"b", "c", "b"}, nil, {"\x00", "\x01", "\x02"}, {run(api.MaxRecord - 1), "d", run(api.MaxRecord - 1)}, {"e"}} {
		want(t, j.Replace(list(records...)), api.OK)
		wantSegments(t, d, number)
		wantRaw(t, d, number, replaced(t, records...))
		wantRecords(t, j, len(records))
		open(t, d, records...)
		number++
	}
	// None at all, and nil, are alike.
	want(t, j.Replace(nil), api.OK)
	want(t, j.Replace([][]byte{}), api.OK)
	wantRaw(t, d, number+1, replaced(t))
	open(t, d)
	want(t, j.Append([]byte("f")), api.OK)
	wantRaw(t, d, number+1, replaced(t)+record(t, "f"))
	open(t, d, "f")
}

// P15.3: all segments ahead are dropped, rising, behind the Sync: so each of them is there until those ahead of it are gone.
func TestReplaceInOrder(t *testing.T) {
	long := run(api.Segment)
	lefts := [][]int{{2, 3, 4}, {2, 3, 4, 5}, {2, 3, 4, 5}, {3, 4, 5}, {4, 5}, {5}}
	for fuse, left := range lefts {
		d := disk.New(plenty)
		lay(t, d, 2, "\x00"+long)
		j := open(t, d, long)
		want(t, j.Append([]byte(long)), api.OK)
		want(t, j.Append([]byte("a")), api.OK)
		d.SetFuse(fuse)
		no := j.Replace(list("x", "y"))
		wantSegments(t, d, left...)
		if fuse == 5 {
			want(t, no, api.OK)
			wantRecords(t, j, 2)
			open(t, d, "x", "y")
			continue
		}
		want(t, no, api.ErrLost)
		if synced := d.Synced(5); (synced > 0) != (fuse > 1) {
			t.Error(fuse, synced)
		}
		// It is over, and tells what it told.
		wantOver(t, d, j, 3)
		d.Crash(nil)
		wantOver(t, d, j, 3)
		if fuse < 2 {
			open(t, d, long, long, "a")
			wantSegments(t, d, 2, 3, 4)
		} else {
			open(t, d, "x", "y")
			wantSegments(t, d, 5)
		}
	}
}

// P15.3: of each record is asked what Append asks; of the first one first.
func TestReplaceErrors(t *testing.T) {
	long := run(api.MaxRecord)
	cases := []struct {
		records texts
		no      api.Errno
	}{
		{texts{""}, api.ErrArg},
		{texts{"a", ""}, api.ErrArg},
		{texts{"", "a"}, api.ErrArg},
		{texts{long}, api.ErrLong},
		{texts{"a", long + "x", "b"}, api.ErrLong},
		{texts{"", long}, api.ErrArg},
		{texts{long, ""}, api.ErrLong},
		{texts{"a", long, "", "b"}, api.ErrLong},
		{texts{"a", "", long, "b"}, api.ErrArg},
	}
	d := disk.New(plenty)
	j := open(t, d)
	want(t, j.Append([]byte("z")), api.OK)
	d.SetFuse(0)
	d.SetRoom(0)
	for i, c := range cases {
		if no := j.Replace(list(c.records...)); no != c.no {
			t.Errorf("%d: %d, want %d", i, int(no), int(c.no))
		}
	}
	want(t, j.Replace([][]byte{nil}), api.ErrArg)
	wantSegments(t, d, 0)
	wantRaw(t, d, 0, record(t, "z"))
	wantRecords(t, j, 1)
	if d.Down() {
		t.Error("the disk was asked")
	}
}

// P15.3: there must be room for all of it beside what is there; if there isn't, nothing has changed.
func TestReplaceFull(t *testing.T) {
	d := disk.New(plenty)
	j := open(t, d)
	want(t, j.Append([]byte("a")), api.OK)
	size := len(replaced(t, "x", "y"))
	d.SetRoom(d.Used() + size - 1)
	d.SetFuse(3)
	want(t, j.Replace(list("x", "y")), api.ErrFull)
	wantSegments(t, d, 0)
	wantRaw(t, d, 0, record(t, "a"))
	wantRecords(t, j, 1)
	d.SetRoom(d.Used() + size)
	want(t, j.Replace(list("x", "y")), api.OK)
	wantSegments(t, d, 1)
	d.SetFuse(-1)
	open(t, d, "x", "y")
	// By one Append of the disk: also a replacement that is longer than a segment is.
	d.SetRoom(plenty)
	d.SetFuse(3)
	var many texts
	for range 100 {
		many = append(many, run(500))
	}
	want(t, j.Replace(list(many...)), api.OK)
	wantRaw(t, d, 2, replaced(t, many...))
	// What comes behind it stands in a new segment, since it has Segment bytes.
	d.SetFuse(-1)
	want(t, j.Append([]byte("b")), api.OK)
	wantSegments(t, d, 2, 3)
	open(t, d, append(many, "b")...)
}

// P15.3: a replacement comes in a new segment also where the last one has no bytes, or is torn; what comes behind it stands in its segment.
func TestReplaceBehindAll(t *testing.T) {
	for _, tail := range []string{"", "\x00", record(t, "torn")[:9]} {
		for _, ahead := range []texts{{}, {"\x00a"}, {begin, "\x00a", end}} {
			d := disk.New(plenty)
			lay(t, d, 7, ahead...)
			layRaw(t, d, 7, tail)
			j, _, no := Open(d)
			want(t, no, api.OK)
			want(t, j.Replace(list("x")), api.OK)
			wantSegments(t, d, 8)
			want(t, j.Append([]byte("y")), api.OK)
			wantRaw(t, d, 8, replaced(t, "x")+record(t, "y"))
			open(t, d, "x", "y")
		}
	}
}

// P15.3: a segment that is gone already, by whatever, is no loss.
func TestReplaceDropsWhatIsThere(t *testing.T) {
	d := disk.New(plenty)
	j := open(t, d)
	want(t, j.Append([]byte(run(api.Segment))), api.OK)
	want(t, j.Append([]byte("a")), api.OK)
	want(t, d.Drop(0), api.OK)
	want(t, j.Replace(list("x")), api.OK)
	wantSegments(t, d, 2)
	open(t, d, "x")
}
