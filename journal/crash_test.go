package journal

import (
	"slices"
	"testing"

	"tumbrel/api"
	"tumbrel/disk"
)

// act is a call of a journal: Replace, if all is set, else Append of the first record.
type act struct {
	all     bool
	records texts
}

// do has the journal do the call.
func (a act) do(j *Journal) api.Errno {
	if a.all {
		return j.Replace(list(a.records...))
	}
	return j.Append([]byte(a.records[0]))
}

// behind is what the records are behind the call.
func (a act) behind(records texts) texts {
	if a.all {
		return slices.Clone(a.records)
	}
	return append(slices.Clone(records), a.records[0])
}

// acts is a way of calls that goes through several segments and replacements.
func acts() []act {
	long := run(api.Segment)
	return []act{
		{false, texts{"a"}}, {false, texts{"b"}}, {true, texts{"c", "d"}}, {false, texts{"e"}}, {false, texts{long}}, {false, texts{"f"}},
		{false, texts{long}}, {false, texts{"g"}}, {true, nil}, {false, texts{"h"}}, {true, texts{"i"}}, {true, texts{long, "k"}}, {false, texts{"l"}},
	}
}

// played has a new disk's journal do the acts until one is lost at the fuse's end: the disk, the records behind the calls that were answered OK, those with what the lost one would have done, and if one was lost.
func played(t *testing.T, fuse int) (d *disk.Disk, kept, more texts, lost bool) {
	t.Helper()
	d = disk.New(plenty)
	j := open(t, d)
	d.SetFuse(fuse)
	for i, a := range acts() {
		if no := a.do(j); no != api.OK {
			want(t, no, api.ErrLost)
			wantRecords(t, j, len(kept))
			return d, kept, a.behind(kept), true
		}
		kept = a.behind(kept)
		if j.Records() != len(kept) {
			t.Errorf("act %d: %d records, want %d", i, j.Records(), len(kept))
		}
	}
	return d, kept, kept, false
}

// openedThrough opens what lies on the disk, with crashes within Open at each of its operations, and answers the journal and its records.
func openedThrough(t *testing.T, d *disk.Disk, keep []int) (*Journal, texts) {
	t.Helper()
	for range 20 {
		d.SetFuse(0)
		j, l, no := Open(d)
		if no == api.OK {
			d.SetFuse(-1)
			return j, told(l)
		}
		want(t, no, api.ErrLost)
		d.Crash(keep)
		// Now one operation is done, and the next one is lost.
		d.SetFuse(1)
		j, l, no = Open(d)
		if no == api.OK {
			d.SetFuse(-1)
			return j, told(l)
		}
		want(t, no, api.ErrLost)
		d.Crash(keep)
	}
	t.Fatal("Open doesn't come to its end")
	return nil, nil
}

// wantOneOf fails unless the records are one or the other ones.
func wantOneOf(t *testing.T, fuse, keep int, got, kept, more texts) {
	t.Helper()
	if !slices.Equal(got, kept) && !slices.Equal(got, more) {
		t.Fatalf("fuse %d, keep %d: %s, want %s or %s", fuse, keep, short(got), short(kept), short(more))
	}
}

// P15.4, P3: whenever the power fails, and whatever is kept, Open tells the records behind what was answered OK, or those and what was lost; opened again and again it is the same, and all goes on from there.
func TestCrashes(t *testing.T) {
	over := false
	seen := map[string]int{}
	for fuse := 0; !over; fuse++ {
		for keep := 0; keep < 2100; keep++ {
			// Within the long record's bytes one place is as another.
			if keep == 60 {
				keep = 1990
			}
			d, kept, more, lost := played(t, fuse)
			over = !lost
			d.Crash([]int{keep})
			j, got := openedThrough(t, d, []int{keep})
			wantOneOf(t, fuse, keep, got, kept, more)
			seen[kindOf(got, kept, more)]++
			for range 2 {
				d.Crash(nil)
				open(t, d, got...)
			}
			goOn(t, d, j, got)
		}
	}
	for _, kind := range []string{"kept", "more", "both"} {
		if seen[kind] < 20 {
			t.Error("too seldom:", kind, seen[kind])
		}
	}
}

// kindOf tells which of both the records are.
func kindOf(got, kept, more texts) string {
	switch {
	case slices.Equal(kept, more):
		return "both"
	case slices.Equal(got, more):
		return "more"
	}
	return "kept"
}

// goOn fails unless the journal, which has these records, keeps what comes.
func goOn(t *testing.T, d *disk.Disk, j *Journal, records texts) {
	t.Helper()
	for _, s := range []string{"x", "y"} {
		want(t, j.Append([]byte(s)), api.OK)
		records = append(slices.Clone(records), s)
		open(t, d, records...)
	}
	want(t, j.Replace(list("z")), api.OK)
	want(t, j.Append([]byte("!")), api.OK)
	d.Crash(nil)
	open(t, d, "z", "!")
}

// P15.4: a crash behind a crash: what is torn, or unfinished, from the first is no harm in the second.
func TestCrashesBehindCrashes(t *testing.T) {
	for _, keep := range []int{0, 1, 5, 7, 10, 14, 15, 23, 1000, 3000} {
		for seed := range 40 {
			x := dice(seed)
			d := disk.New(plenty)
			var kept texts
			for range 30 {
				j, got := openedThrough(t, d, []int{keep})
				d.SetFuse(x.upTo(14))
				kept = got
				var more texts
				for i := x.upTo(13); ; i++ {
					a := acts()[i%len(acts())]
					more = a.behind(kept)
					if a.do(j) != api.OK {
						break
					}
					kept = more
				}
				d.Crash([]int{keep + x.upTo(3)})
				_, got = openedThrough(t, d, []int{x.upTo(30)})
				wantOneOf(t, seed, keep, got, kept, more)
			}
		}
	}
}

// whole tells if no segment of the disk has bytes at its end that say nothing.
func whole(t *testing.T, d *disk.Disk) bool {
	t.Helper()
	for _, number := range d.Segments() {
		b, no := d.Read(number)
		want(t, no, api.OK)
		if parsed(number, b).torn {
			return false
		}
	}
	return true
}

// P15.4, P3: one byte spoilt, wherever it stands, also ahead of the base and in what is unfinished, is told.
func TestSpoilt(t *testing.T) {
	spoilt := 0
	for fuse := range 40 {
		for _, keep := range []int{0, 7, 15, 3000} {
			d, _, _, _ := played(t, fuse)
			d.Crash([]int{keep})
			if !whole(t, d) {
				continue
			}
			d.SetFuse(0)
			for _, number := range d.Segments() {
				b, _ := d.Read(number)
				for at := 0; at < len(b); at++ {
					// Within the long record one place is as another.
					if at > 50 && at < len(b)-50 {
						at = len(b) - 50
					}
					spoil(t, d, number, at)
					spoilt++
				}
			}
		}
	}
	if spoilt < 5000 {
		t.Error("too few:", spoilt)
	}
}

// spoil spoils one byte of what is right otherwise: Open answers ErrBad, and changes nothing.
func spoil(t *testing.T, d *disk.Disk, number, at int) {
	t.Helper()
	for _, by := range []byte{1, 2, 3, 0x80, byte(at) | 4} {
		d.Spoil(number, at, by)
		if j, l, no := Open(d); j != nil || len(l) != 0 || no != api.ErrBad || d.Down() {
			t.Fatalf("segment %d, byte %d xored with %02x: %d records, %d", number, at, by, len(l), int(no))
		}
		d.Spoil(number, at, by)
	}
}

// P15.4: so it is with each other byte, at each place.
func TestSpoiltByAll(t *testing.T) {
	d := disk.New(plenty)
	lay(t, d, 0, "\x00a", "\x00bc")
	lay(t, d, 1, begin, "\x00a", end, "\x00b")
	lay(t, d, 2, begin, "\x00a")
	d.SetFuse(0)
	for _, number := range d.Segments() {
		b, _ := d.Read(number)
		for at := range b {
			for by := 1; by < 256; by++ {
				d.Spoil(number, at, byte(by))
				wantRefused(t, d, api.ErrBad)
				d.Spoil(number, at, byte(by))
			}
		}
	}
	d.SetFuse(-1)
	open(t, d, "a", "b")
}
