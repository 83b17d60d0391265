package config

import (
	"math"
	"slices"
	"testing"

	"tumbrel/tree"
)

// dice are numbers that aren't alike, the same ones each time.
type dice uint32

func (d *dice) upTo(n int) int {
	*d = *d*1664525 + 1013904223
	return int(*d>>8) % n
}

// strange is numbers at the edges, and near states' ones.
func (d *dice) strange() int {
	edges := list{math.MinInt, math.MaxInt, math.MinInt32, math.MaxInt32, 1 << 32, -1}
	if d.upTo(4) > 0 {
		return d.upTo(44) - 2
	}
	return edges[d.upTo(len(edges))]
}

// strangeList is up to most such numbers.
func (d *dice) strangeList(most int) list {
	numbers := make(list, d.upTo(most+1))
	for i := range numbers {
		numbers[i] = d.strange()
	}
	return numbers
}

// tree is up to 40 states.
func (d *dice) tree() []Node {
	depths := make([]int, 1+d.upTo(40))
	for i := 1; i < len(depths); i++ {
		depths[i] = max(0, depths[i-1]+1-d.upTo(4))
	}
	l := nodes(depths...)
	for i := range l {
		l[i].All, l[i].End = d.upTo(3) == 0, d.upTo(2) == 0
	}
	return l
}

// R1: of any nodes and numbers all calls end, and none panics.
func TestAnyArguments(t *testing.T) {
	d := dice(1)
	for range 20000 {
		l := make([]Node, d.upTo(44))
		for i := range l {
			l[i] = Node{Parent: d.strange(), Depth: d.strange(), Behind: d.strange(), All: d.upTo(2) > 0, Leaf: d.upTo(2) > 0}
		}
		if d.upTo(2) > 0 {
			l = d.tree()
		}
		active, i, k := d.strangeList(50), d.strange(), d.strange()
		left, entered, next := Move(l, active, i, k)
		legal, over := Legal(l, active), Over(l, active)
		one, two, three, four := Start(l), Enter(l, i, k), Leave(l, active, i), Leaves(l, active)
		if tree.Formed(l) {
			continue
		}
		count := len(left) + len(entered) + len(next) + len(one) + len(two) + len(three) + len(four)
		if legal || over || count > 0 {
			t.Error("not formed:", l, active, i, k)
		}
	}
}

// R1: very many nodes, and very many numbers, are gone through once.
func TestHuge(t *testing.T) {
	l := make([]Node, 1<<20)
	for i := range l {
		l[i] = Node{Parent: -1, Behind: i + 1, Leaf: true, End: true}
	}
	active := make(list, 1<<22)
	for i := range active {
		active[i] = i
	}
	wantLegal(t, l, list{1}, false)
	wantLeave(t, l, list{1}, -1, nil)
	wantMove(t, l, list{1}, 1, 2, nil, nil, nil)
	wantEnter(t, l, -1, 2, nil)
	l = l[:3]
	wantLegal(t, l, active, false)
	wantLeave(t, l, active, -1, list{2, 1, 0})
	wantMove(t, l, active, 1, 2, list{2, 1, 0}, list{2}, list{2})
	wantLeaves(t, l, active, list{0, 1, 2}, true)
}

// R2, R5: what is asked once more is answered alike, whatever was asked between.
func TestNothingIsKept(t *testing.T) {
	one, two := payNodes(t), example(t)
	for range 3 {
		wantMove(t, one, list{1, 2, 3, 5}, 3, 4, list{3}, list{4}, list{1, 2, 4, 5})
		wantMove(t, two, list{0, 1, 2}, 1, 3, list{2, 1, 0}, list{3}, list{3})
		wantMove(t, one, list{1, 2, 3, 5}, 3, 9, nil, nil, nil)
		wantLegal(t, one, list{1, 2, 3, 5}, true)
		wantLegal(t, two, list{1, 2, 3, 5}, false)
		wantEnter(t, one, -1, 4, list{1, 2, 4, 5})
		wantEnter(t, make([]Node, 7), -1, 4, nil)
		wantLeave(t, one, list{1, 2, 3, 5}, 1, list{5, 3, 2})
		wantLeaves(t, one, list{6}, list{6}, true)
	}
}

// R2: names count for nothing.
func TestNamesCountForNothing(t *testing.T) {
	d := dice(3)
	for range 500 {
		l := d.tree()
		active, from, to := Start(l), d.upTo(len(l)), d.upTo(len(l))
		left, entered, next := Move(l, active, from, to)
		for i := range l {
			l[i].Name = []string{"a", "", "\xff", "go"}[d.upTo(4)]
		}
		wantMove(t, l, active, from, to, left, entered, next)
		wantLegal(t, l, active, true)
	}
}

// R4: lists of no elements are alike, nil or empty.
func TestNoElements(t *testing.T) {
	l := payNodes(t)
	for _, none := range []list{nil, {}, make(list, 0, 9)} {
		wantLegal(t, l, none, false)
		wantLeave(t, l, none, -1, nil)
		wantLeaves(t, l, none, nil, false)
		wantMove(t, l, none, 0, 6, nil, list{6}, list{6})
	}
}

// roomy is a copy of a list with spare room, in which something stands.
func roomy[T any](from []T, spare T) []T {
	room := slices.Clone(from)
	for range 50 {
		room = append(room, spare)
	}
	return room[:len(from)]
}

// R3: what is handed in is left as it is, its spare room too, and the spare room counts for nothing.
func TestArgumentsAreLeft(t *testing.T) {
	d := dice(5)
	for range 300 {
		plain := d.tree()
		active := d.strangeList(12)
		if d.upTo(2) > 0 {
			active = Start(plain)
		}
		l, numbers := roomy(plain, Node{Name: "spare", Parent: -1, Leaf: true}), roomy(active, 1)
		wholeNodes, wholeNumbers := slices.Clone(l[:cap(l)]), slices.Clone(numbers[:cap(numbers)])
		from, to := d.upTo(len(l)), d.upTo(len(l))
		left, entered, next := Move(plain, active, from, to)
		wantMove(t, l, numbers, from, to, left, entered, next)
		wantLegal(t, l, numbers, Legal(plain, active))
		wantLeave(t, l, numbers, -1, Leave(plain, active, -1))
		wantLeaves(t, l, numbers, Leaves(plain, active), Over(plain, active))
		wantEnter(t, l, -1, to, Enter(plain, -1, to))
		if !slices.Equal(Start(l), Start(plain)) {
			t.Error("Start", l)
		}
		if !slices.Equal(l[:cap(l)], wholeNodes) || !slices.Equal(numbers[:cap(numbers)], wholeNumbers) {
			t.Error("an argument is changed")
		}
	}
}

// wantOwnMemory fails if one of the lists, its spare room too, shares memory with another one.
func wantOwnMemory(t *testing.T, lists ...list) {
	t.Helper()
	for i, a := range lists {
		a = a[:cap(a)]
		for k := range a {
			a[k] = -100 - i
		}
	}
	for i, a := range lists {
		for _, x := range a[:cap(a)] {
			if x != -100-i {
				t.Error("shared memory:", i)
			}
		}
	}
}

// R3: what is answered is new memory, and no two lists of one answer share any.
func TestAnswersAreNew(t *testing.T) {
	l := payNodes(t)
	for _, active := range []list{{0}, {6}, {1, 2, 3, 5}, {1, 2, 4, 5}, {3, 5}} {
		for from := range l {
			for to := range l {
				handed := roomy(active, 1)
				left, entered, next := Move(l, handed, from, to)
				again, andAgain, andThen := Move(l, handed, from, to)
				wantOwnMemory(t, handed, left, entered, next, again, andAgain, andThen)
			}
			handed := roomy(active, 1)
			wantOwnMemory(t, handed, Leaves(l, handed), Leave(l, handed, -1), Leave(l, handed, from), Start(l), Start(l), Enter(l, -1, from), Enter(l, -1, from), Leaves(l, handed))
		}
	}
}

// P10.1 to P10.3, by many trees of up to 40 states: long ways of moves stay legal, and each one is as it is told.
func TestLongWays(t *testing.T) {
	d := dice(7)
	moves := 0
	for range 1000 {
		l := d.tree()
		active := Start(l)
		if !slices.Equal(active, byDefault(l, 0)) {
			t.Fatal(l, active)
		}
		for range 40 {
			from, to := active[d.upTo(len(active))], d.upTo(len(l))
			wantToldMove(t, l, active, from, to)
			scope := tree.Meet(l, from, to)
			if scope != -1 && l[scope].All {
				continue
			}
			_, _, active = Move(l, active, from, to)
			wantLegal(t, l, active, true)
			wantNothingElse(t, l, active)
			moves++
		}
	}
	if moves < 10000 {
		t.Error(moves)
	}
}

// wantNothingElse fails if a legal configuration is legal with one state less, or with one more.
func wantNothingElse(t *testing.T, l []Node, active list) {
	t.Helper()
	for k := range active {
		wantLegal(t, l, slices.Delete(slices.Clone(active), k, k+1), false)
	}
	for i := range l {
		if !slices.Contains(active, i) {
			more := append(slices.Clone(active), i)
			slices.Sort(more)
			wantLegal(t, l, more, false)
		}
	}
}
