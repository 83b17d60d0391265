package config

import (
	"math"
	"slices"
	"testing"

	"tumbrel/api"
	"tumbrel/chart"
	"tumbrel/check"
	"tumbrel/tree"
)

// Short to write.
type (
	Node = tree.Node
	list = []int
)

// nodes is states that lie as deep as that, in the order of a text.
func nodes(depths ...int) []Node {
	l := make([]Node, len(depths))
	for i, depth := range depths {
		l[i] = Node{Parent: -1, Depth: depth, Behind: i + 1}
		for k := range i {
			if depths[k] == depth-1 {
				l[i].Parent = k
			}
		}
		for l[i].Behind < len(depths) && depths[l[i].Behind] > depth {
			l[i].Behind++
		}
		l[i].Leaf = l[i].Behind == i+1
	}
	return l
}

// shapes is each way in which n states can lie in one another.
func shapes(n int) [][]Node {
	var all [][]Node
	var deeper func(depths []int, most int)
	deeper = func(depths []int, most int) {
		if len(depths) == n {
			all = append(all, nodes(depths...))
			return
		}
		for depth := range most + 1 {
			deeper(append(slices.Clone(depths), depth), depth+1)
		}
	}
	deeper(nil, 0)
	return all
}

// eachTree visits each way in which up to most states can lie in one another, with all at each choice of them, leaves too; some are ends, whether leaves or not.
func eachTree(most int, visit func(l []Node)) {
	for n := range most + 1 {
		for _, shape := range shapes(n) {
			for mask := range 1 << n {
				l := slices.Clone(shape)
				for i := range l {
					l[i].All, l[i].End = mask>>i&1 == 1, (mask+i)%3 == 0
				}
				visit(l)
			}
		}
	}
}

// chosen is the numbers of the bits of a mask, rising.
func chosen(mask int) list {
	var numbers list
	for i := range 63 {
		if mask>>i&1 == 1 {
			numbers = append(numbers, i)
		}
	}
	return numbers
}

// byDefault is what is entered by default of i, by the chapter's words: down the states.
func byDefault(l []Node, i int) list {
	entered := list{i}
	for n, k := range tree.Inner(l, i) {
		if n == 0 || l[i].All {
			entered = append(entered, byDefault(l, k)...)
		}
	}
	return entered
}

// onTheWay is what is entered along a way of states, each right in the one ahead of it, by the chapter's words.
func onTheWay(l []Node, way list) list {
	i, rest := way[0], way[1:]
	if len(rest) == 0 {
		return byDefault(l, i)
	}
	if !l[i].All {
		return append(list{i}, onTheWay(l, rest)...)
	}
	entered := list{i}
	for _, k := range tree.Inner(l, i) {
		if k == rest[0] {
			entered = append(entered, onTheWay(l, rest)...)
		} else {
			entered = append(entered, byDefault(l, k)...)
		}
	}
	return entered
}

// toldEnter is Enter by the chapter's words, of a formed l.
func toldEnter(l []Node, scope, i int) list {
	if i < 0 || i >= len(l) {
		return nil
	}
	var way list
	for i != scope && i != -1 {
		way = append(list{i}, way...)
		i = l[i].Parent
	}
	if i != scope || len(way) == 0 {
		return nil
	}
	return onTheWay(l, way)
}

// toldLeave is Leave by the chapter's words, of a formed l.
func toldLeave(l []Node, active list, scope int) list {
	var left list
	for i := len(l) - 1; i >= 0; i-- {
		outer := l[i].Parent
		for outer != -1 && outer != scope {
			outer = l[outer].Parent
		}
		if outer == scope && slices.Contains(active, i) {
			left = append(left, i)
		}
	}
	return left
}

// legalOnes is what can be active together of the state i and those that lie in it: each choice, as a mask.
func legalOnes(l []Node, i int) []int {
	all := []int{1 << i}
	if l[i].All {
		for _, k := range tree.Inner(l, i) {
			var more []int
			for _, mask := range all {
				for _, inner := range legalOnes(l, k) {
					more = append(more, mask|inner)
				}
			}
			all = more
		}
		return all
	}
	var more []int
	for _, k := range tree.Inner(l, i) {
		for _, inner := range legalOnes(l, k) {
			more = append(more, 1<<i|inner)
		}
	}
	if l[i].Leaf {
		return all
	}
	return more
}

// allLegal is each legal configuration, as a mask.
func allLegal(l []Node) map[int]bool {
	all := map[int]bool{}
	for _, i := range tree.Inner(l, -1) {
		for _, mask := range legalOnes(l, i) {
			all[mask] = true
		}
	}
	return all
}

const pay = `chart pay 1 {
	var n = 0
	state a {
		do take undo give at 0 retries 2
		on done if n < 3 go b set n = n + 1
		on stop go z
	}
	state b {
		all
		state c {
			state d {
				do x undo y at 1 retries 0
				on done go e
			}
			state e {
				end
			}
		}
		state f {
			do p undo q at 3 retries 1
			on done go z
		}
	}
	state z {
		end
	}
}
`

// payNodes is the nodes of a right chart: a 0, b 1 with all, c 2 in it, d 3 and e 4 in that, f 5 in b, z 6.
func payNodes(t *testing.T) []Node {
	t.Helper()
	c, at, e := check.Compile(pay)
	if e != api.OK {
		t.Fatal(at, e)
	}
	return tree.Nodes(c)
}

// example is layer 9's one, with all at A.
func example(t *testing.T) []Node {
	t.Helper()
	c, at, e := chart.Read("chart c 1 { state A { all state B { end } state C { end } } state D { end } }")
	if e != api.OK {
		t.Fatal(at, e)
	}
	return tree.Nodes(c)
}

// strangeNumbers is numbers that are no state's of n, and not -1.
func strangeNumbers(n int) list {
	return list{-2, -3, -n - 1, n, n + 1, n + 40, math.MinInt, math.MaxInt, math.MinInt32, math.MaxInt32, 1 << 32, -1 << 32, 1<<32 + 1}
}

func wantEnter(t *testing.T, l []Node, scope, i int, want list) {
	t.Helper()
	if got := Enter(l, scope, i); !slices.Equal(got, want) {
		t.Errorf("Enter(%v, %d, %d) = %v, want %v", l, scope, i, got, want)
	}
}

func wantLeave(t *testing.T, l []Node, active list, scope int, want list) {
	t.Helper()
	if got := Leave(l, active, scope); !slices.Equal(got, want) {
		t.Errorf("Leave(%v, %v, %d) = %v, want %v", l, active, scope, got, want)
	}
}

func wantMove(t *testing.T, l []Node, active list, from, to int, left, entered, next list) {
	t.Helper()
	a, b, c := Move(l, active, from, to)
	if !slices.Equal(a, left) || !slices.Equal(b, entered) || !slices.Equal(c, next) {
		t.Errorf("Move(%v, %v, %d, %d) = %v %v %v, want %v %v %v", l, active, from, to, a, b, c, left, entered, next)
	}
}

func wantLegal(t *testing.T, l []Node, active list, want bool) {
	t.Helper()
	if got := Legal(l, active); got != want {
		t.Errorf("Legal(%v, %v) = %v", l, active, got)
	}
}

func wantLeaves(t *testing.T, l []Node, active, want list, over bool) {
	t.Helper()
	if got := Leaves(l, active); !slices.Equal(got, want) {
		t.Errorf("Leaves(%v, %v) = %v, want %v", l, active, got, want)
	}
	if got := Over(l, active); got != over {
		t.Errorf("Over(%v, %v) = %v", l, active, got)
	}
}

// P10.1, P10.2: the chapter's example.
func TestExample(t *testing.T) {
	l := example(t)
	if got := Start(l); !slices.Equal(got, list{0, 1, 2}) {
		t.Error(got)
	}
	wantMove(t, l, list{0, 1, 2}, 1, 3, list{2, 1, 0}, list{3}, list{3})
	wantLeaves(t, l, list{0, 1, 2}, list{1, 2}, true)
}

// P10.1: Legal, some answers written out.
func TestLegalOfPay(t *testing.T) {
	l := payNodes(t)
	for _, active := range []list{{0}, {1, 2, 3, 5}, {1, 2, 4, 5}, {6}} {
		wantLegal(t, l, active, true)
	}
	for _, active := range []list{
		nil, {}, // empty
		{0, 6}, {0, 1, 2, 3, 5}, {1, 2, 3, 5, 6}, // two that lie in none
		{1, 2, 3}, {1, 5}, {1}, // not all in b
		{1, 2, 5},                                            // none in c
		{1, 2, 3, 4, 5},                                      // two in c
		{3}, {2, 3}, {1, 3, 5}, {2, 3, 5}, {0, 5}, {0, 2, 3}, // in what isn't active
		{5, 3, 2, 1}, {1, 2, 5, 3}, {2, 1, 3, 5}, {0, 0}, {6, 6}, {1, 2, 3, 3, 5}, {1, 1, 2, 3, 5}, // not rising
		{7}, {-1}, {-1, 0}, {0, 7}, {-2, 6}, {math.MinInt, 0}, {0, math.MaxInt}, {1 << 32}, {1<<32 + 6}, // no states
	} {
		wantLegal(t, l, active, false)
	}
}

// P10.1: Legal of each choice of up to 6 states, whatever has all; all at a leaf counts for nothing.
func TestLegalOfAll(t *testing.T) {
	eachTree(6, func(l []Node) {
		legal := allLegal(l)
		for mask := range 1 << len(l) {
			wantLegal(t, l, chosen(mask), legal[mask])
		}
	})
}

// P10.1: Legal of each list of up to 4 numbers, in any order and more than once: just rising ones are legal.
func TestLegalOfLists(t *testing.T) {
	for _, l := range [][]Node{nodes(0), nodes(0, 1), nodes(0, 1, 1), nodes(0, 1, 2, 3), nodes(0, 0, 1, 1)} {
		l[0].All, l[len(l)/2].All = true, true
		legal := allLegal(l)
		var longer func(active list)
		longer = func(active list) {
			mask, rises := 0, true
			for k, i := range active {
				rises = rises && i >= 0 && i < len(l) && (k == 0 || active[k-1] < i)
				mask |= 1 << (i + 1)
			}
			wantLegal(t, l, active, rises && legal[mask>>1])
			if len(active) < 4 {
				for i := -1; i <= len(l); i++ {
					longer(append(slices.Clone(active), i))
				}
			}
		}
		longer(nil)
	}
}

// P10.1: Start and Enter, some answers written out.
func TestEnterOfPay(t *testing.T) {
	l := payNodes(t)
	if got := Start(l); !slices.Equal(got, list{0}) {
		t.Error(got)
	}
	wantEnter(t, l, -1, 0, list{0})
	wantEnter(t, l, -1, 1, list{1, 2, 3, 5})
	wantEnter(t, l, -1, 2, list{1, 2, 3, 5})
	wantEnter(t, l, -1, 4, list{1, 2, 4, 5})
	wantEnter(t, l, -1, 5, list{1, 2, 3, 5})
	// What has all, but is the scope, brings no others.
	wantEnter(t, l, 1, 4, list{2, 4})
	wantEnter(t, l, 1, 2, list{2, 3})
	wantEnter(t, l, 1, 5, list{5})
	wantEnter(t, l, 2, 4, list{4})
	for _, x := range [][2]int{{2, 2}, {-1, -1}, {0, 0}, {2, 5}, {3, 2}, {3, 4}, {0, 1}, {1, 6}, {6, -1}, {-1, 7}, {7, 7}, {7, 3}, {-2, 3}, {-2, -2}} {
		wantEnter(t, l, x[0], x[1], nil)
	}
}

// P10.1: on the way all are entered of a state with all, in order: those ahead of the way, and behind it, by default.
func TestEnterAmongAll(t *testing.T) {
	// 0 { 1 { 2 3 } 4 { 5 { 6 7 } 8 { 9 10 } 11 { 12 13 } } 14 { 15 16 } } 17
	l := nodes(0, 1, 2, 2, 1, 2, 3, 3, 2, 3, 3, 2, 3, 3, 1, 2, 2, 0)
	l[4].All = true
	wantEnter(t, l, -1, 10, list{0, 4, 5, 6, 8, 10, 11, 12})
	wantEnter(t, l, 0, 10, list{4, 5, 6, 8, 10, 11, 12})
	wantEnter(t, l, 4, 10, list{8, 10})
	wantEnter(t, l, -1, 4, list{0, 4, 5, 6, 8, 9, 11, 12})
	wantEnter(t, l, -1, 16, list{0, 14, 16})
	wantEnter(t, l, -1, 0, list{0, 1, 2})
	l[0].All, l[8].All = true, true
	wantEnter(t, l, -1, 10, list{0, 1, 2, 4, 5, 6, 8, 9, 10, 11, 12, 14, 15})
	wantEnter(t, l, -1, 13, list{0, 1, 2, 4, 5, 6, 8, 9, 10, 11, 13, 14, 15})
	wantEnter(t, l, -1, 16, list{0, 1, 2, 4, 5, 6, 8, 9, 10, 11, 12, 14, 16})
	wantEnter(t, l, 4, 8, list{8, 9, 10})
	wantEnter(t, l, 8, 10, list{10})
	wantEnter(t, l, -1, 17, list{17})
	wantMove(t, l, Start(l), 6, 7, list{6}, list{7}, list{0, 1, 2, 4, 5, 7, 8, 9, 10, 11, 12, 14, 15})
	wantMove(t, l, Start(l), 9, 4, list{15, 14, 12, 11, 10, 9, 8, 6, 5, 4, 2, 1}, list{4, 5, 6, 8, 9, 10, 11, 12}, list{0, 4, 5, 6, 8, 9, 10, 11, 12})
}

// P10.1: Start and Enter of each pair of numbers of up to 6 states, and of numbers that are no state's.
func TestEnterOfAll(t *testing.T) {
	eachTree(6, func(l []Node) {
		if len(l) > 0 {
			if got, want := Start(l), byDefault(l, 0); !slices.Equal(got, want) {
				t.Errorf("Start(%v) = %v, want %v", l, got, want)
			}
		}
		for scope := -2; scope <= len(l)+1; scope++ {
			for i := -2; i <= len(l)+1; i++ {
				wantEnter(t, l, scope, i, toldEnter(l, scope, i))
			}
		}
	})
}

// P10.1: Leave, Leaves and Over, some answers written out.
func TestLeaveOfPay(t *testing.T) {
	l := payNodes(t)
	active := list{1, 2, 3, 5}
	for scope, want := range map[int]list{-1: {5, 3, 2, 1}, 0: nil, 1: {5, 3, 2}, 2: {3}, 3: nil, 5: nil, 6: nil, 7: nil, -2: nil} {
		wantLeave(t, l, active, scope, want)
	}
	wantLeave(t, l, list{6}, -1, list{6})
	wantLeave(t, l, nil, -1, nil)
	// The order is that of the numbers, and numbers that are no state's are not left.
	wantLeave(t, l, list{2, 5, 7, 1, -1, 3, math.MaxInt, math.MinInt}, -1, list{5, 3, 2, 1})
	wantLeaves(t, l, active, list{3, 5}, false)
	wantLeaves(t, l, list{1, 2, 4, 5}, list{4, 5}, false)
	wantLeaves(t, l, list{6}, list{6}, true)
	wantLeaves(t, l, list{0}, list{0}, false)
	wantLeaves(t, l, list{4, 6}, list{4, 6}, true)
	wantLeaves(t, l, list{0, 6}, list{0, 6}, false)
	// That there is no active leaf isn't over.
	wantLeaves(t, l, list{1, 2}, nil, false)
	wantLeaves(t, l, nil, nil, false)
	wantLeaves(t, l, list{7, -1, -2, math.MaxInt, math.MinInt}, nil, false)
	wantLeaves(t, l, list{-1, 6, 7}, list{6}, true)
	// End counts of leaves alone.
	l[1].End, l[2].End = true, true
	wantLeaves(t, l, active, list{3, 5}, false)
	wantLeaves(t, l, list{1, 2}, nil, false)
	l[3].End, l[5].End, l[1].End = true, true, false
	wantLeaves(t, l, active, list{3, 5}, true)
}

// P10.1, P10.2: Leave, Leaves, Over and Move of each choice of up to 5 states, legal or not, and of numbers that are no state's.
func TestMoveOfAll(t *testing.T) {
	eachTree(5, func(l []Node) {
		for mask := range 1 << len(l) {
			active := chosen(mask)
			var leaves list
			ends := 0
			for _, i := range active {
				if l[i].Leaf {
					leaves = append(leaves, i)
					if l[i].End {
						ends++
					}
				}
			}
			wantLeaves(t, l, active, leaves, len(leaves) > 0 && ends == len(leaves))
			for scope := -2; scope <= len(l)+1; scope++ {
				var want list
				if -1 <= scope && scope < len(l) {
					want = toldLeave(l, active, scope)
				}
				wantLeave(t, l, active, scope, want)
			}
			for from := -1; from <= len(l); from++ {
				for to := -1; to <= len(l); to++ {
					wantToldMove(t, l, active, from, to)
				}
			}
		}
	})
}

// wantToldMove fails unless Move answers as by the chapter's words.
func wantToldMove(t *testing.T, l []Node, active list, from, to int) {
	t.Helper()
	if min(from, to) < 0 || max(from, to) >= len(l) {
		wantMove(t, l, active, from, to, nil, nil, nil)
		return
	}
	scope := tree.Meet(l, from, to)
	left, entered := toldLeave(l, active, scope), toldEnter(l, scope, to)
	next := slices.Clone(entered)
	for _, i := range active {
		if !slices.Contains(left, i) {
			next = append(next, i)
		}
	}
	slices.Sort(next)
	wantMove(t, l, active, from, to, left, entered, next)
}

// P10.2: Move, some answers written out.
func TestMoveOfPay(t *testing.T) {
	l := payNodes(t)
	active := list{1, 2, 3, 5}
	wantMove(t, l, active, 3, 4, list{3}, list{4}, list{1, 2, 4, 5})
	wantMove(t, l, active, 5, 6, list{5, 3, 2, 1}, list{6}, list{6})
	wantMove(t, l, list{0}, 0, 1, list{0}, list{1, 2, 3, 5}, list{1, 2, 3, 5})
	wantMove(t, l, list{0}, 0, 4, list{0}, list{1, 2, 4, 5}, list{1, 2, 4, 5})
	// To itself: left, and entered again.
	wantMove(t, l, active, 3, 3, list{3}, list{3}, active)
	wantMove(t, l, list{1, 2, 4, 5}, 1, 1, list{5, 4, 2, 1}, list{1, 2, 3, 5}, active)
	// To what it lies in, or what lies in it: neither is the scope.
	wantMove(t, l, list{1, 2, 4, 5}, 4, 1, list{5, 4, 2, 1}, list{1, 2, 3, 5}, active)
	wantMove(t, l, active, 1, 4, list{5, 3, 2, 1}, list{1, 2, 4, 5}, list{1, 2, 4, 5})
	// A scope with all: what isn't on the way isn't entered again.
	wantMove(t, l, active, 2, 5, list{5, 3, 2}, list{5}, list{1, 5})
	// What isn't active, from or others, isn't asked for.
	wantMove(t, l, nil, 3, 4, nil, list{4}, list{4})
	wantMove(t, l, list{6}, 3, 4, nil, list{4}, list{4, 6})
	// What is active then rises, and is of states.
	wantMove(t, l, list{6, 5, 3, -1, 7, 0, math.MinInt, math.MaxInt}, 3, 4, list{3}, list{4}, list{0, 4, 5, 6})
	for _, x := range append(strangeNumbers(len(l)), -1) {
		wantMove(t, l, active, x, 3, nil, nil, nil)
		wantMove(t, l, active, 3, x, nil, nil, nil)
		wantMove(t, l, active, x, x, nil, nil, nil)
	}
}

// P10.3: Start is legal, and so is what is active behind each Move from a legal configuration, if the scope has not all.
func TestWhatFollows(t *testing.T) {
	count := 0
	eachTree(6, func(l []Node) {
		wantLegal(t, l, Start(l), len(l) > 0)
		for mask := range allLegal(l) {
			active := chosen(mask)
			for _, from := range active {
				for to := range l {
					scope := tree.Meet(l, from, to)
					if scope != -1 && l[scope].All {
						continue
					}
					count++
					_, _, next := Move(l, active, from, to)
					wantLegal(t, l, next, true)
				}
			}
		}
	})
	if count < 10000 {
		t.Error(count)
	}
}

// P10.1: nodes that aren't formed, or none, have no answers, whatever is asked.
func TestUnformed(t *testing.T) {
	bad := [][]Node{nil, {}, make([]Node, 3), nodes(make([]int, 41)...)}
	good := payNodes(t)
	for i := range good {
		for k := range 4 {
			l := slices.Clone(good)
			switch k {
			case 0:
				l[i].Parent++
			case 1:
				l[i].Depth++
			case 2:
				l[i].Behind++
			case 3:
				l[i].Leaf = !l[i].Leaf
			}
			bad = append(bad, l)
		}
	}
	for _, l := range bad {
		wantLegal(t, l, list{0}, false)
		wantLegal(t, l, list{6}, false)
		wantLegal(t, l, list{1, 2, 3, 5}, false)
		wantLegal(t, l, nil, false)
		wantLeaves(t, l, list{0, 6}, nil, false)
		wantLeaves(t, l, list{6}, nil, false)
		if got := Start(l); len(got) != 0 {
			t.Error(l, got)
		}
		for i := -1; i < 8; i++ {
			wantLeave(t, l, list{0, 1, 2, 3, 4, 5, 6}, i, nil)
			for k := -1; k < 8; k++ {
				wantEnter(t, l, i, k, nil)
				wantMove(t, l, list{1, 2, 3, 5}, i, k, nil, nil, nil)
			}
		}
	}
}

// P10.1 to P10.3: as many states as there may be, each in the one ahead of it, or in none, or all in one that has all.
func TestMany(t *testing.T) {
	deep, wide, around := make([]int, 40), make([]int, 40), make([]int, 40)
	for i := range deep {
		deep[i] = i
		around[i] = min(i, 1)
	}
	all := chosen(1<<40 - 1)
	backwards := slices.Clone(all)
	slices.Reverse(backwards)

	l := nodes(deep...)
	if got := Start(l); !slices.Equal(got, all) {
		t.Error(got)
	}
	wantLegal(t, l, all, true)
	wantLegal(t, l, all[:39], false)
	wantLegal(t, l, all[1:], false)
	wantEnter(t, l, 30, 33, all[31:])
	wantLeave(t, l, all, 30, backwards[:9])
	wantLeaves(t, l, all, list{39}, false)
	wantMove(t, l, all, 39, 20, backwards[:20], all[20:], all)

	l = nodes(wide...)
	l[39].End = true
	if got := Start(l); !slices.Equal(got, list{0}) {
		t.Error(got)
	}
	wantLegal(t, l, list{39}, true)
	wantLegal(t, l, list{40}, false)
	wantLeaves(t, l, list{39}, list{39}, true)
	wantMove(t, l, list{0}, 0, 39, list{0}, list{39}, list{39})

	l = nodes(around...)
	if got := Start(l); !slices.Equal(got, list{0, 1}) {
		t.Error(got)
	}
	wantEnter(t, l, -1, 39, list{0, 39})
	wantMove(t, l, list{0, 7}, 7, 39, list{7}, list{39}, list{0, 39})
	l[0].All = true
	if got := Start(l); !slices.Equal(got, all) {
		t.Error(got)
	}
	wantLegal(t, l, all, true)
	wantLegal(t, l, all[:39], false)
	wantEnter(t, l, -1, 39, all)
	wantLeave(t, l, all, -1, backwards)
	wantLeaves(t, l, all, all[1:], false)
}
