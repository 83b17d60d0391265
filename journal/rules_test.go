package journal

import (
	"bytes"
	"slices"
	"testing"

	"tumbrel/api"
	"tumbrel/disk"
	"tumbrel/seal"
)

// dice are numbers that aren't alike, the same ones each time.
type dice uint32

func (d *dice) upTo(n int) int {
	*d = *d*1664525 + 1013904223
	return int(*d>>8) % n
}

// text is a record, mostly a short one, sometimes one at the edges.
func (d *dice) text() []byte {
	n := d.upTo(30)
	switch d.upTo(12) {
	case 0:
		n = 0
	case 1:
		n = api.MaxRecord - 1 + d.upTo(3) - 1
	case 2, 3, 4:
		n = api.Segment - 20 + d.upTo(40)
	}
	b := make([]byte, n)
	for i := range b {
		b[i] = byte(d.upTo(256))
	}
	return b
}

// texts is up to four records.
func (d *dice) texts() [][]byte {
	l := make([][]byte, d.upTo(5))
	for i := range l {
		l[i] = d.text()
	}
	return l
}

// words is the chapter's sentences on journals, on a disk of its own, which it asks for all at each call: nothing is kept but the disk, and if it is over.
type words struct {
	d    *disk.Disk
	over bool
}

// parts is a segment's payloads, and whether bytes are left behind them.
func (w *words) parts(number int) (payloads texts, torn, bad bool) {
	b, _ := w.d.Read(number)
	for {
		p, n, no := seal.Open(b)
		if no != api.OK {
			return payloads, no == api.ErrNone && len(b) > 0, no == api.ErrBad
		}
		payloads = append(payloads, string(p))
		b = b[n:]
	}
}

// kind is what a segment is: right or not, a replacement, unfinished, and its records. In the payloads of a right one, by letters, a B may stand only ahead, an E only once, behind it.
func (w *words) kind(number int) (right, replaces, unfinished bool, records texts) {
	payloads, _, bad := w.parts(number)
	if bad {
		return
	}
	letters := ""
	for _, p := range payloads {
		switch {
		case p == begin:
			letters += "B"
		case p == end:
			letters += "E"
		case p[0] == 0 && len(p) > 1:
			records = append(records, p[1:])
		default:
			return false, false, false, nil
		}
	}
	begins := len(payloads) > 0 && payloads[0] == begin
	right = letters == "" || begins && (letters == "B" || letters == "BE")
	return right, letters == "BE", letters == "B", records
}

// open is the chapter's P15.1.
func (w *words) open() (texts, api.Errno) {
	numbers := w.d.Segments()
	if w.d.Down() && len(numbers) > 0 {
		return nil, api.ErrLost
	}
	lastUnfinished := false
	for i, number := range numbers {
		right, _, unfinished, _ := w.kind(number)
		if !right || i > 0 && numbers[i-1]+1 != number || unfinished && i+1 < len(numbers) {
			return nil, api.ErrBad
		}
		lastUnfinished = unfinished
	}
	if lastUnfinished {
		if w.d.Drop(numbers[len(numbers)-1]) != api.OK {
			return nil, api.ErrLost
		}
	}
	return w.fromBase(w.d.Segments())
}

// fromBase drops what is ahead of the base, and answers the other segments' records.
func (w *words) fromBase(numbers []int) (texts, api.Errno) {
	base := 0
	for i, number := range numbers {
		if _, replaces, _, _ := w.kind(number); replaces {
			base = i
		}
	}
	var records texts
	for i, number := range numbers {
		if i < base {
			if w.d.Drop(number) != api.OK {
				return nil, api.ErrLost
			}
			continue
		}
		_, _, _, r := w.kind(number)
		records = append(records, r...)
	}
	return records, api.OK
}

// asked is the errors of a record.
func (w *words) asked(r []byte) api.Errno {
	switch {
	case len(r) == 0:
		return api.ErrArg
	case 1+len(r) > api.MaxRecord:
		return api.ErrLong
	}
	return api.OK
}

// put is an Append of the disk, and the Sync that follows.
func (w *words) put(number int, payloads texts) api.Errno {
	var b []byte
	for _, p := range payloads {
		one, _ := seal.Seal([]byte(p))
		b = append(b, one...)
	}
	no := w.d.Append(number, b)
	if no == api.OK {
		no = w.d.Sync(number)
	}
	w.over = no == api.ErrLost
	return no
}

// add is the chapter's P15.2.
func (w *words) add(r []byte) api.Errno {
	if w.over {
		return api.ErrLost
	}
	if no := w.asked(r); no != api.OK {
		return no
	}
	number := 0
	if numbers := w.d.Segments(); len(numbers) > 0 {
		number = numbers[len(numbers)-1]
		b, _ := w.d.Read(number)
		if _, torn, _ := w.parts(number); torn || len(b) >= api.Segment {
			number++
		}
	}
	return w.put(number, texts{"\x00" + string(r)})
}

// replace is the chapter's P15.3.
func (w *words) replace(l [][]byte) api.Errno {
	if w.over {
		return api.ErrLost
	}
	payloads := texts{begin}
	for _, r := range l {
		if no := w.asked(r); no != api.OK {
			return no
		}
		payloads = append(payloads, "\x00"+string(r))
	}
	numbers := w.d.Segments()
	number := 0
	if len(numbers) > 0 {
		number = numbers[len(numbers)-1] + 1
	}
	if no := w.put(number, append(payloads, end)); no != api.OK {
		return no
	}
	for _, ahead := range numbers {
		if w.d.Drop(ahead) != api.OK {
			w.over = true
			return api.ErrLost
		}
	}
	return api.OK
}

// wantAlike fails unless both disks are.
func wantAlike(t *testing.T, a, b *disk.Disk) {
	t.Helper()
	if !slices.Equal(a.Segments(), b.Segments()) || a.Used() != b.Used() || a.Down() != b.Down() {
		t.Fatalf("segments %v, %d bytes, down %v; want %v, %d, %v", a.Segments(), a.Used(), a.Down(), b.Segments(), b.Used(), b.Down())
	}
	for _, number := range a.Segments() {
		x, no := a.Read(number)
		y, toldNo := b.Read(number)
		if !bytes.Equal(x, y) || no != toldNo || a.Synced(number) != b.Synced(number) {
			t.Fatalf("segment %d: %d bytes, %d synced, %d; want %d, %d, %d", number, len(x), a.Synced(number), int(no), len(y), b.Synced(number), int(toldNo))
		}
	}
}

// pair is a journal and the words, each on a disk of its own, to which the same is done.
type pair struct {
	j       *Journal
	d       *disk.Disk
	w       *words
	records texts
}

// reopen opens both: false, if that is refused.
func (p *pair) reopen(t *testing.T) (api.Errno, bool) {
	t.Helper()
	j, l, no := Open(p.d)
	records, toldNo := p.w.open()
	if no != toldNo || !slices.Equal(told(l), records) || (j != nil) != (no == api.OK) {
		t.Fatalf("Open: %s, %d; want %s, %d", short(told(l)), int(no), short(records), int(toldNo))
	}
	if no == api.OK {
		p.j, p.w.over, p.records = j, false, records
	}
	return no, no == api.OK
}

// step does one thing, chosen by dice, to both, and answers what both answered.
func (p *pair) step(t *testing.T, x *dice) api.Errno {
	t.Helper()
	no, toldNo := api.OK, api.OK
	switch kind := x.upTo(20); {
	case kind < 10:
		r := x.text()
		if no, toldNo = p.j.Append(r), p.w.add(r); no == api.OK {
			p.records = append(p.records, string(r))
		}
	case kind < 14:
		l := x.texts()
		if no, toldNo = p.j.Replace(l), p.w.replace(l); no == api.OK {
			p.records = told(l)
		}
	case kind < 17:
		n := x.upTo(16) - 2
		p.d.SetFuse(n)
		p.w.d.SetFuse(n)
	case kind < 18:
		n := p.d.Used() - 100 + x.upTo(9000)
		p.d.SetRoom(n)
		p.w.d.SetRoom(n)
	default:
		no, _ = p.reopen(t)
		return no
	}
	if no != toldNo {
		t.Fatalf("answered %d, want %d", int(no), int(toldNo))
	}
	return no
}

// recover crashes both disks, now and then with a spoilt byte, until both are opened: false, if what is left is wrong.
func (p *pair) recover(t *testing.T, x *dice) bool {
	t.Helper()
	if numbers := p.d.Segments(); x.upTo(10) == 0 && len(numbers) > 0 {
		number, at := numbers[x.upTo(len(numbers))], x.upTo(40)
		p.d.Spoil(number, at, 0x10)
		p.w.d.Spoil(number, at, 0x10)
	}
	for {
		keep := []int{x.upTo(30), x.upTo(3000), x.upTo(60)}
		p.d.Crash(keep)
		p.w.d.Crash(keep)
		n := x.upTo(5) - 1
		p.d.SetFuse(n)
		p.w.d.SetFuse(n)
		switch no, opened := p.reopen(t); {
		case no == api.ErrBad:
			return false
		case opened:
			return true
		}
	}
}

// P15.1 to P15.4, R1, R2, R5, R6: long ways of calls and crashes are answered as the chapter's words say, and leave on the disk what they say.
func TestByTheWords(t *testing.T) {
	var seen [api.ErrMap + 1]int
	for seed := range 150 {
		x := dice(seed)
		room := 2000 + x.upTo(60000)
		p := &pair{d: disk.New(room), w: &words{d: disk.New(room)}}
		p.reopen(t)
		for range 120 {
			no := p.step(t, &x)
			seen[no]++
			wantAlike(t, p.d, p.w.d)
			if no == api.ErrLost && x.upTo(3) == 0 && !p.recover(t, &x) {
				seen[api.ErrBad]++
				break
			}
			wantAlike(t, p.d, p.w.d)
			wantRecords(t, p.j, len(p.records))
		}
	}
	for _, no := range []api.Errno{api.OK, api.ErrArg, api.ErrLong, api.ErrFull, api.ErrLost, api.ErrBad} {
		if seen[no] < 20 {
			t.Error("too seldom:", int(no), seen[no])
		}
	}
}

// R1: a nil journal, and one that Open didn't make, answer ErrArg, and 0.
func TestNil(t *testing.T) {
	for _, j := range []*Journal{nil, new(Journal)} {
		for _, b := range [][]byte{nil, []byte("a"), make([]byte, api.MaxRecord)} {
			want(t, j.Append(b), api.ErrArg)
			want(t, j.Replace([][]byte{b}), api.ErrArg)
		}
		want(t, j.Replace(nil), api.ErrArg)
		wantRecords(t, j, 0)
	}
}

// R2: journals on disks of their own don't know of one another.
func TestApart(t *testing.T) {
	d, e := disk.New(plenty), disk.New(plenty)
	j, k := open(t, d), open(t, e)
	want(t, j.Append([]byte("a")), api.OK)
	want(t, k.Append([]byte("b")), api.OK)
	want(t, k.Append([]byte("c")), api.OK)
	want(t, j.Replace(list("d")), api.OK)
	e.SetFuse(0)
	want(t, k.Append([]byte("e")), api.ErrLost)
	want(t, j.Append([]byte("f")), api.OK)
	e.Crash(nil)
	open(t, d, "d", "f")
	open(t, e, "b", "c")
}

// spare is a text's bytes with spare room behind them, and all of it.
func spare(s string) (b, all []byte) {
	all = append([]byte(s), "spare room"...)
	return all[:len(s)], all
}

// R3: what is handed in is left as it is, its spare room too, and not kept.
func TestArgumentsAreLeft(t *testing.T) {
	d := disk.New(plenty)
	j := open(t, d)
	b, all := spare("abc")
	want(t, j.Append(b), api.OK)
	first, allFirst := spare("x")
	second, allSecond := spare("yz")
	l := [][]byte{first, second, []byte("behind")}
	want(t, j.Replace(l[:2]), api.OK)
	if string(all) != "abcspare room" || string(allFirst) != "xspare room" || string(allSecond) != "yzspare room" {
		t.Errorf("%q %q %q", all, allFirst, allSecond)
	}
	if &l[0][0] != &first[0] || &l[1][0] != &second[0] || string(l[2]) != "behind" {
		t.Error("the list is changed")
	}
	want(t, j.Append(b), api.OK)
	for _, bytes := range [][]byte{all, allFirst, allSecond} {
		for i := range bytes {
			bytes[i] = '!'
		}
	}
	clear(l)
	open(t, d, "x", "yz", "abc")
}

// fill writes over a list's records, their spare room too, and then over the list.
func fill(l [][]byte) {
	for _, b := range l {
		b = b[:cap(b)]
		for i := range b {
			b[i] = '!'
		}
	}
	clear(l[:cap(l)])
}

// R3: what is answered is new memory, its spare room too, and stays as it is whatever comes.
func TestAnswersAreNew(t *testing.T) {
	d := disk.New(plenty)
	j := open(t, d)
	records := texts{"a", "bc", "defghijkl", "m"}
	for _, s := range records {
		want(t, j.Append([]byte(s)), api.OK)
	}
	_, l, _ := Open(d)
	_, again, _ := Open(d)
	for i, b := range l {
		_ = append(b, "behind"...)
		wantList(t, l, records)
		for at := range b {
			b[at] ^= 0x55
		}
		for k, other := range l {
			if k != i && string(other) != records[k] {
				t.Error("two records share memory:", i, k)
			}
		}
		for at := range b {
			b[at] ^= 0x55
		}
	}
	fill(l)
	wantList(t, again, records)
	open(t, d, records...)
	want(t, j.Replace(list("x")), api.OK)
	d.Spoil(1, 9, 0xff)
	d.Crash(nil)
	wantList(t, again, records)
	// With the answer written over, the journal goes on.
	d = disk.New(plenty)
	lay(t, d, 0, "\x00a")
	j, l, _ = Open(d)
	fill(l)
	want(t, j.Append([]byte("b")), api.OK)
	wantRecords(t, j, 2)
	open(t, d, "a", "b")
}

// R4: no records may be nil or empty.
func TestNone(t *testing.T) {
	for _, l := range [][][]byte{nil, {}} {
		d := disk.New(plenty)
		j := open(t, d)
		want(t, j.Replace(l), api.OK)
		wantRaw(t, d, 0, replaced(t))
	}
}

// R1: whatever bytes lie on the disk, Open ends, and tells what the chapter's words tell.
func FuzzOpen(f *testing.F) {
	f.Add([]byte("abc"), []byte("def"))
	one, _ := seal.Seal([]byte(begin))
	two, _ := seal.Seal([]byte("\x00a"))
	three, _ := seal.Seal([]byte(end))
	f.Add(two, slices.Concat(one, two, three))
	f.Add(slices.Concat(one, two, three, two), slices.Concat(one, two))
	f.Add(slices.Concat(one, two), two)
	f.Fuzz(func(t *testing.T, a, b []byte) {
		p := &pair{d: disk.New(plenty), w: &words{d: disk.New(plenty)}}
		for number, raw := range [][]byte{a, b} {
			layRaw(t, p.d, number, string(raw))
			layRaw(t, p.w.d, number, string(raw))
		}
		p.reopen(t)
		wantAlike(t, p.d, p.w.d)
	})
}
