package disk

import (
	"bytes"
	"math"
	"slices"
	"testing"

	"tumbrel/api"
)

// dice are numbers that aren't alike, the same ones each time.
type dice uint32

func (d *dice) upTo(n int) int {
	*d = *d*1664525 + 1013904223
	return int(*d>>8) % n
}

// number is a segment's number, mostly one of few, or one at the edges.
func (d *dice) number() int {
	edges := list{math.MinInt, math.MaxInt, math.MinInt32, math.MaxInt32, 1 << 32, -1}
	if d.upTo(10) > 0 {
		return d.upTo(7) * 3
	}
	return edges[d.upTo(len(edges))]
}

// count is how much of something there is to be, mostly little, or a number at the edges.
func (d *dice) count(most int) int {
	edges := list{math.MinInt, math.MaxInt, -1, -2, 0, 1 << 32}
	if d.upTo(8) > 0 {
		return d.upTo(most + 1)
	}
	return edges[d.upTo(len(edges))]
}

// text is up to most bytes.
func (d *dice) text(most int) []byte {
	b := make([]byte, d.upTo(most+1))
	for i := range b {
		b[i] = byte(d.upTo(256))
	}
	return b
}

// counts is up to most counts.
func (d *dice) counts(most int) list {
	l := make(list, d.upTo(most+1))
	for i := range l {
		l[i] = d.count(6)
	}
	return l
}

// cell is a byte of a segment, and whether it is synced.
type cell struct {
	b      byte
	synced bool
}

// row is a segment, byte by byte.
type row struct {
	number int
	cells  []cell
}

// words is the chapter's sentences on disks, asked byte by byte: the rows stand in the order in which they came. left is how many operations the fuse has left, below 0 if there is none.
type words struct {
	rows       []row
	room, left int
	down       bool
}

func (w *words) used() int {
	n := 0
	for _, r := range w.rows {
		n += len(r.cells)
	}
	return n
}

// place is where the segment stands, -1 if there is none.
func (w *words) place(number int) int {
	return slices.IndexFunc(w.rows, func(r row) bool { return r.number == number })
}

// ends tells if the fuse ends at the operation that is about to be done.
func (w *words) ends() bool {
	w.down = w.left == 0
	if w.left > 0 {
		w.left--
	}
	return w.down
}

func (w *words) add(number int, b []byte) api.Errno {
	switch {
	case w.down:
		return api.ErrLost
	case number < 0:
		return api.ErrArg
	case w.used()+len(b) > w.room:
		return api.ErrFull
	case w.ends():
		return api.ErrLost
	}
	if w.place(number) < 0 {
		w.rows = append(w.rows, row{number: number})
	}
	r := &w.rows[w.place(number)]
	for _, c := range b {
		r.cells = append(r.cells, cell{b: c})
	}
	return api.OK
}

// operate asks what Sync and Drop ask, and does it if nothing is against it.
func (w *words) operate(number int, do func(at int)) api.Errno {
	at := w.place(number)
	switch {
	case w.down:
		return api.ErrLost
	case at < 0:
		return api.ErrNone
	case w.ends():
		return api.ErrLost
	}
	do(at)
	return api.OK
}

func (w *words) sync(number int) api.Errno {
	return w.operate(number, func(at int) {
		for k := range w.rows[at].cells {
			w.rows[at].cells[k].synced = true
		}
	})
}

func (w *words) drop(number int) api.Errno {
	return w.operate(number, func(at int) { w.rows = slices.Delete(w.rows, at, at+1) })
}

func (w *words) read(number int) ([]byte, api.Errno) {
	at := w.place(number)
	switch {
	case w.down:
		return nil, api.ErrLost
	case at < 0:
		return nil, api.ErrNone
	}
	var b []byte
	for _, c := range w.rows[at].cells {
		b = append(b, c.b)
	}
	return b, api.OK
}

func (w *words) synced(number int) int {
	n := 0
	if at := w.place(number); at >= 0 {
		for _, c := range w.rows[at].cells {
			if c.synced {
				n++
			}
		}
	}
	return n
}

func (w *words) crash(keep list) {
	slices.SortFunc(w.rows, func(a, b row) int {
		if a.number < b.number {
			return -1
		}
		return 1
	})
	var rows []row
	for i, r := range w.rows {
		var cells []cell
		lost := 0
		for _, c := range r.cells {
			if !c.synced {
				if len(keep) == 0 || lost >= keep[i%len(keep)] {
					break
				}
				lost++
			}
			cells = append(cells, cell{c.b, true})
		}
		if len(cells) > 0 {
			rows = append(rows, row{r.number, cells})
		}
	}
	w.rows, w.down, w.left = rows, false, -1
}

func (w *words) spoil(number, at int, by byte) bool {
	i := w.place(number)
	if i < 0 || at < 0 || at >= len(w.rows[i].cells) {
		return false
	}
	w.rows[i].cells[at].b ^= by
	return true
}

func (w *words) segments() list {
	var numbers list
	for _, r := range w.rows {
		numbers = append(numbers, r.number)
	}
	slices.Sort(numbers)
	return numbers
}

// wantWords fails unless the disk tells what the words do.
func wantWords(t *testing.T, d *Disk, w *words) {
	t.Helper()
	numbers := w.segments()
	if got := d.Segments(); !slices.Equal(got, numbers) {
		t.Fatalf("Segments() = %v, want %v", got, numbers)
	}
	if d.Used() != w.used() || d.Down() != w.down {
		t.Fatalf("Used() = %d, Down() = %v; want %d, %v", d.Used(), d.Down(), w.used(), w.down)
	}
	for _, number := range append(numbers, -1, 0, 1, math.MaxInt, math.MinInt) {
		b, no := d.Read(number)
		told, toldNo := w.read(number)
		if !bytes.Equal(b, told) || no != toldNo || d.Synced(number) != w.synced(number) {
			t.Fatalf("segment %d: %x, %d, %d synced; want %x, %d, %d", number, b, int(no), d.Synced(number), told, int(toldNo), w.synced(number))
		}
	}
}

// step does one call, chosen by dice, on the disk and on the words, and answers what both answered.
func (x *dice) step(d *Disk, w *words) (got, told api.Errno) {
	number := x.number()
	switch kind := x.upTo(40); {
	case kind < 18:
		b := x.text(9)
		return d.Append(number, b), w.add(number, b)
	case kind < 26:
		return d.Sync(number), w.sync(number)
	case kind < 30:
		return d.Drop(number), w.drop(number)
	case kind < 33:
		n := x.count(12)
		d.SetFuse(n)
		w.left = max(n, -1)
	case kind < 34:
		n := x.count(200)
		d.SetRoom(n)
		w.room = max(n, 0)
	case kind < 37:
		keep := x.counts(5)
		d.Crash(keep)
		w.crash(keep)
	default:
		at, by := x.count(9), byte(x.upTo(256))
		if d.Spoil(number, at, by) != w.spoil(number, at, by) {
			return api.OK, api.ErrBad
		}
	}
	return api.OK, api.OK
}

// P14.1 to P14.3, R1, R2, R5, R6: long ways of calls, with arguments of all kinds, are answered as the chapter's words say, and change what they say alone.
func TestByTheWords(t *testing.T) {
	var seen [api.ErrMap + 1]int
	for seed := range 300 {
		x := dice(seed)
		room := x.count(100)
		d, w := New(room), &words{room: max(room, 0), left: -1}
		for range 300 {
			got, told := x.step(d, w)
			if got != told {
				t.Fatalf("seed %d: answered %d, want %d", seed, int(got), int(told))
			}
			seen[got]++
			wantWords(t, d, w)
		}
	}
	for _, no := range []api.Errno{api.OK, api.ErrArg, api.ErrNone, api.ErrFull, api.ErrLost} {
		if seen[no] < 1000 {
			t.Error("too seldom:", int(no), seen[no])
		}
	}
}

// R1: a nil disk answers ErrArg where an Errno is answered, and zero for everything else.
func TestNil(t *testing.T) {
	var d *Disk
	for _, number := range []int{0, 1, -1, math.MaxInt, math.MinInt} {
		want(t, d.Append(number, []byte("a")), api.ErrArg)
		want(t, d.Append(number, nil), api.ErrArg)
		want(t, d.Sync(number), api.ErrArg)
		want(t, d.Drop(number), api.ErrArg)
		wantNoRead(t, d, number, api.ErrArg)
		if d.Synced(number) != 0 || d.Spoil(number, 0, 1) || d.Spoil(0, number, 0) {
			t.Error(number)
		}
		d.SetFuse(number)
		d.SetRoom(number)
		d.Crash(list{number})
	}
	d.Crash(nil)
	wantTold(t, d, nil, nil, 0)
	wantDown(t, d, false)
}

// R1: a disk that New didn't make is one without room.
func TestZero(t *testing.T) {
	x := dice(1)
	for range 200 {
		d, w := new(Disk), &words{left: -1}
		for range 40 {
			got, told := x.step(d, w)
			want(t, got, told)
			wantWords(t, d, w)
		}
	}
	d := new(Disk)
	want(t, d.Append(0, []byte("a")), api.ErrFull)
	want(t, d.Append(0, nil), api.OK)
	d.SetRoom(1)
	add(t, d, 0, "a")
	wantTold(t, d, list{0}, list{0}, 1)
}

// R1: very many segments, and very many bytes, are dealt with in useful time.
func TestHuge(t *testing.T) {
	const many = 1 << 17
	d := New(math.MaxInt)
	for i := range many {
		want(t, d.Append((many-i)*5, []byte("ab")), api.OK)
	}
	for range many {
		want(t, d.Append(1, []byte("0123456789")), api.OK)
		want(t, d.Sync(1), api.OK)
	}
	if d.Used() != many*12 || d.Synced(1) != many*10 || len(d.Segments()) != many+1 {
		t.Error(d.Used(), d.Synced(1), len(d.Segments()))
	}
	// The segment 1 is synced whole; of the others each second one keeps a byte.
	d.Crash(list{0, 1})
	if d.Used() != many*10+many/2 || len(d.Segments()) != many/2+1 {
		t.Error(d.Used(), len(d.Segments()))
	}
	for _, number := range d.Segments() {
		want(t, d.Drop(number), api.OK)
	}
	wantTold(t, d, nil, nil, 0)
}

// R2: two disks know nothing of each other.
func TestApart(t *testing.T) {
	one, two := New(3), New(5)
	add(t, one, 1, "abc")
	add(t, two, 1, "defgh")
	one.SetFuse(0)
	want(t, one.Sync(1), api.ErrLost)
	wantDown(t, two, false)
	want(t, two.Sync(1), api.OK)
	one.Crash(list{1})
	two.SetRoom(0)
	add(t, one, 2, "ij")
	wantRead(t, one, 1, "a")
	wantRead(t, two, 1, "defgh")
	wantTold(t, one, list{1, 2}, list{1, 0}, 3)
	wantTold(t, two, list{1}, list{5}, 5)
}

// R2: the same calls are answered alike, on each disk.
func TestAlike(t *testing.T) {
	one, two := dice(11), dice(11)
	d, e := New(50), New(50)
	w, v := &words{room: 50, left: -1}, &words{room: 50, left: -1}
	for range 2000 {
		a, _ := one.step(d, w)
		b, _ := two.step(e, v)
		want(t, a, b)
		if !slices.Equal(d.Segments(), e.Segments()) {
			t.Fatal(d.Segments(), e.Segments())
		}
	}
}

// R4: lists of no elements are alike, nil or empty.
func TestNoElements(t *testing.T) {
	for _, none := range [][]byte{nil, {}, make([]byte, 0, 9)} {
		d := New(0)
		want(t, d.Append(1, none), api.OK)
		wantRead(t, d, 1, "")
		wantTold(t, d, list{1}, list{0}, 0)
	}
	for _, none := range []list{nil, {}, make(list, 0, 9)} {
		d := New(9)
		add(t, d, 1, "ab")
		want(t, d.Sync(1), api.OK)
		add(t, d, 1, "cd")
		d.Crash(none)
		wantRead(t, d, 1, "ab")
	}
}

// R3: what is handed in is left as it is, its spare room too, and not kept.
func TestArgumentsAreLeft(t *testing.T) {
	d := New(1000)
	b := append(make([]byte, 0, 50), "abc"...)
	copy(b[3:50], "spare")
	whole := bytes.Clone(b[:50])
	want(t, d.Append(1, b), api.OK)
	want(t, d.Append(2, b), api.OK)
	add(t, d, 1, "defg")
	if !d.Spoil(1, 0, 0xff) || !d.Spoil(2, 1, 0xff) {
		t.Error("Spoil")
	}
	keep := append(make(list, 0, 10), 5, 1)
	copy(keep[2:10], list{7, 7, 7, 7, 7, 7, 7, 7})
	wholeKeep := slices.Clone(keep[:10])
	d.Crash(keep)
	add(t, d, 1, "hij")
	if !bytes.Equal(b[:50], whole) || !slices.Equal(keep[:10], wholeKeep) {
		t.Error("an argument is changed")
	}
	wantRead(t, d, 1, "\x9ebcdehij")
	wantRead(t, d, 2, "a")
	for i := range b[:50] {
		b[:50][i] = '!'
	}
	for i := range keep[:10] {
		keep[:10][i] = 0
	}
	wantRead(t, d, 1, "\x9ebcdehij")
	wantRead(t, d, 2, "a")
	wantTold(t, d, list{1, 2}, list{5, 1}, 9)
}

// fill writes over a list, its spare room too.
func fill[T any](l []T, with T) {
	l = l[:cap(l)]
	for i := range l {
		l[i] = with
	}
}

// R3: what is answered is new memory, its spare room too, and stays as it is whatever is done to the disk.
func TestAnswersAreNew(t *testing.T) {
	d := New(1000)
	whole := ""
	for _, s := range []string{"a", "bcd", "efghijklmnopq"} {
		whole += s
		add(t, d, 1, s)
		add(t, d, 2, "x")
		b, _ := d.Read(1)
		again, _ := d.Read(1)
		fill(b, '!')
		if string(again) != whole {
			t.Errorf("two answers share memory: %q", again)
		}
		numbers, more := d.Segments(), d.Segments()
		fill(numbers, 9)
		if !slices.Equal(more, list{1, 2}) {
			t.Error("two answers share memory:", more)
		}
	}
	wantRead(t, d, 1, whole)
	b, _ := d.Read(1)
	numbers := d.Segments()
	add(t, d, 1, "r")
	add(t, d, 0, "s")
	d.Spoil(1, 0, 0xff)
	d.Crash(list{0, 2})
	add(t, d, 1, "tuv")
	want(t, d.Drop(1), api.OK)
	if string(b) != whole || !slices.Equal(numbers, list{1, 2}) {
		t.Errorf("an answer is changed: %q, %v", b, numbers)
	}
}
