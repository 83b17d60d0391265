package tree

import (
	"fmt"
	"math"
	"slices"
	"strconv"
	"strings"
	"testing"

	"tumbrel/api"
	"tumbrel/chart"
	"tumbrel/check"
	"tumbrel/expr"
)

// Short to write.
type (
	Chart  = chart.Chart
	CState = chart.State
	On     = chart.On
	Set    = chart.Set
)

func pos(line, col int) api.Pos { return api.Pos{Line: line, Col: col} }

// read is the chart of that text.
func read(t *testing.T, s string) Chart {
	t.Helper()
	c, at, no := chart.Read(s)
	if no != api.OK {
		t.Fatalf("%s: %v %v", s, at, no)
	}
	return c
}

// sameState tells if all of two states is alike, places too.
func sameState(a, b CState) bool {
	return chart.Same(Chart{States: []CState{a}}, Chart{States: []CState{b}})
}

// told is a chart's nodes by the chapter's words, asked otherwise: down the states, of each one those that lie in it.
func told(list []CState, parent, depth int, l []Node) []Node {
	for _, s := range list {
		i := len(l)
		l = append(l, Node{Name: s.Name, Parent: parent, Depth: depth, All: s.All, End: s.End, Leaf: len(s.Inner) == 0})
		l = told(s.Inner, i, depth+1, l)
		l[i].Behind = len(l)
	}
	return l
}

// flat is all states of a list in the order of the text.
func flat(list []CState) []CState {
	var all []CState
	for _, s := range list {
		all = append(append(all, s), flat(s.Inner)...)
	}
	return all
}

// forests is each way in which n states can lie in one another.
func forests(n int) [][]CState {
	if n == 0 {
		return [][]CState{nil}
	}
	var all [][]CState
	for k := range n {
		for _, inner := range forests(k) {
			for _, behind := range forests(n - 1 - k) {
				all = append(all, append([]CState{{Inner: inner}}, behind...))
			}
		}
	}
	return all
}

// named gives states names and kinds by their numbers, in new memory.
func named(list []CState, next *int) []CState {
	var all []CState
	for _, s := range list {
		i := *next
		*next++
		all = append(all, CState{Name: "s" + strconv.Itoa(i), At: pos(i+1, 2*i+1), All: i%3 == 1, End: i%4 == 2, Inner: named(s.Inner, next)})
	}
	return all
}

// smallCharts is a chart of each way in which up to most states can lie in one another.
func smallCharts(most int) []Chart {
	var all []Chart
	for n := range most + 1 {
		for _, f := range forests(n) {
			next := 0
			all = append(all, Chart{Name: "c", States: named(f, &next)})
		}
	}
	return all
}

// deep is n states, each in the one ahead of it.
func deep(n int) []CState {
	var list []CState
	for i := n - 1; i >= 0; i-- {
		list = []CState{{Name: "s" + strconv.Itoa(i), At: pos(i+1, 1), Inner: list}}
	}
	return list
}

// wide is n states that lie in none.
func wide(n int) []CState {
	list := make([]CState, n)
	for i := range list {
		list[i] = CState{Name: "s" + strconv.Itoa(i), At: pos(i+1, 1), End: true}
	}
	return list
}

// wantNodes fails unless Nodes answers that, and it is formed.
func wantNodes(t *testing.T, c Chart, want []Node) {
	t.Helper()
	if l := Nodes(c); !slices.Equal(l, want) || !Formed(l) {
		t.Errorf("Nodes(%.600v) = %v, want %v", c, l, want)
	}
}

// wantStates fails unless State answers each of a chart's states, and none for other numbers.
func wantStates(t *testing.T, c Chart) {
	t.Helper()
	all := flat(c.States)
	for i, want := range all {
		if s, ok := State(c, i); !ok || !sameState(s, want) {
			t.Errorf("State(%.600v, %d) = %v %v", c, i, s, ok)
		}
	}
	n := len(all)
	for _, i := range []int{-1, -2, -n, math.MinInt, math.MinInt32, n, n + 1, n + 40, math.MaxInt32, math.MaxInt} {
		if s, ok := State(c, i); ok || !sameState(s, CState{}) {
			t.Errorf("State(%.600v, %d) = %v %v, want none", c, i, s, ok)
		}
	}
}

const (
	example = "chart c 1 { state A { state B { end } state C { end } } state D { end } }"
	pay     = `chart pay 1 {
	var n = 0
	state a {
		do take undo give at 0 retries 2
		on done if n < 3 && !(n == 1) go b set n = n + 1 set n = -n
		on stop go z
	}
	state b {
		all
		on stop go z set n = 5
		state c {
			state d {
				do x undo y at 1 retries 0
				on done go e
			}
			on back go a
			state e {
				end
			}
		}
		state f {
			do p undo q at 3 retries 1
			on done go z
		}
	}
	state z {
		end
	}
}
`
)

// P9.1, P9.2: the chapter's example.
func TestExample(t *testing.T) {
	c := read(t, example)
	l := []Node{
		{Name: "A", Parent: -1, Depth: 0, Behind: 3},
		{Name: "B", Parent: 0, Depth: 1, Behind: 2, End: true, Leaf: true},
		{Name: "C", Parent: 0, Depth: 1, Behind: 3, End: true, Leaf: true},
		{Name: "D", Parent: -1, Depth: 0, Behind: 4, End: true, Leaf: true},
	}
	wantNodes(t, c, l)
	wantStates(t, c)
	if Meet(l, 1, 2) != 0 || Meet(l, 0, 1) != -1 || !slices.Equal(Inner(l, -1), []int{0, 3}) {
		t.Error(Meet(l, 1, 2), Meet(l, 0, 1), Inner(l, -1))
	}
}

// P9.1: a right chart, with all that states may have.
func TestPay(t *testing.T) {
	c, at, no := check.Compile(pay)
	if no != api.OK {
		t.Fatal(at, no)
	}
	wantNodes(t, c, []Node{
		{Name: "a", Parent: -1, Depth: 0, Behind: 1, Leaf: true},
		{Name: "b", Parent: -1, Depth: 0, Behind: 6, All: true},
		{Name: "c", Parent: 1, Depth: 1, Behind: 5},
		{Name: "d", Parent: 2, Depth: 2, Behind: 4, Leaf: true},
		{Name: "e", Parent: 2, Depth: 2, Behind: 5, End: true, Leaf: true},
		{Name: "f", Parent: 1, Depth: 1, Behind: 6, Leaf: true},
		{Name: "z", Parent: -1, Depth: 0, Behind: 7, End: true, Leaf: true},
	})
	wantStates(t, c)
	s, ok := State(c, 3)
	want := CState{Name: "d", At: pos(12, 10), Do: "x", Undo: "y", Where: 1, Ons: []On{{Event: "done", Target: "e", At: pos(14, 8)}}}
	if !ok || !sameState(s, want) {
		t.Error(s, ok)
	}
	s, _ = State(c, 0)
	if !sameState(s, c.States[0]) || s.Ons[0].At != pos(5, 6) || !expr.Same(s.Ons[0].Sets[1].To, expr.Neg{X: expr.Ref{Name: "n"}}) {
		t.Error(s)
	}
	if s, _ = State(c, 1); s.Inner[0].Ons[0].At != pos(16, 7) || s.Inner[0].Inner[0].Ons[0].At != pos(14, 8) {
		t.Error(s)
	}
}

// P9.1: each way in which a few states can lie in one another.
func TestSmallCharts(t *testing.T) {
	for _, c := range smallCharts(7) {
		wantNodes(t, c, told(c.States, -1, 0, nil))
		wantStates(t, c)
	}
}

// P9.1: states that lie deeper than layer 6 reads, and as many as there may be: one more, and there are no nodes, but each state is answered.
func TestDeepAndMany(t *testing.T) {
	for n := 1; n <= api.MaxStates; n++ {
		for _, list := range [][]CState{deep(n), wide(n)} {
			c := Chart{States: list}
			wantNodes(t, c, told(list, -1, 0, nil))
			wantStates(t, c)
		}
	}
	l := Nodes(Chart{States: deep(api.MaxStates)})
	if len(l) != 40 || l[39] != (Node{Name: "s39", Parent: 38, Depth: 39, Behind: 40, Leaf: true}) || l[7] != (Node{Name: "s7", Parent: 6, Depth: 7, Behind: 40}) {
		t.Error(l)
	}
	for n := api.MaxStates + 1; n < 2*api.MaxStates; n++ {
		half := n / 2
		within := []CState{{Name: "o", Inner: wide(n - 1)}}
		for _, list := range [][]CState{deep(n), wide(n), within, append(wide(half), deep(n-half)...), append(deep(half), wide(n-half)...)} {
			if l := Nodes(Chart{States: list}); len(l) != 0 {
				t.Errorf("%d states: %v", n, l)
			}
			wantStates(t, Chart{States: list})
		}
	}
	for k := range api.MaxStates + 1 {
		list := append(deep(k), wide(api.MaxStates-k)...)
		wantNodes(t, Chart{States: list}, told(list, -1, 0, nil))
		// One more, at the end, ahead of all, or innermost.
		for _, more := range [][]CState{append(slices.Clone(list), CState{}), append([]CState{{}}, list...), append(deep(k+1), wide(api.MaxStates-k)...)} {
			if l := Nodes(Chart{States: more}); len(l) != 0 {
				t.Errorf("%d deep: %v", k, l)
			}
		}
	}
}

// P9.1: charts without states, and those that aren't right, or aren't formed.
func TestWrongCharts(t *testing.T) {
	for _, c := range []Chart{{}, {Name: "c", Version: 3}, {Vars: []chart.Var{{Name: "n"}}}, read(t, "chart c 1 { var n = 1 }")} {
		wantNodes(t, c, nil)
		wantStates(t, c)
	}
	loudly := On{Event: "", Guard: &expr.Lit{N: 1}, Target: "\xff", At: pos(-1, -2), Sets: []Set{{}, {Name: "if", To: expr.Not{}}}}
	for _, list := range [][]CState{
		{{}},
		{{}, {}},
		{{Name: "if"}, {Name: "if"}},
		{{Name: "\xff\x00", Inner: []CState{{Name: strings.Repeat("a", 1000)}}}},
		{{Name: "a", All: true, End: true, Do: "x", Where: -7, Retries: 1 << 40}},
		{{Name: "a", Do: "x", Undo: "y", Inner: []CState{{Name: "b", All: true}}}},
		{{Name: "a", End: true, Inner: []CState{{Name: "b"}}}},
		{{Name: "a", Ons: slices.Repeat([]On{{Event: "e", At: pos(3, 4)}}, 50)}},
		{{Name: "a", Inner: []CState{{Name: "a", Inner: []CState{{Name: "a"}, {Name: "a"}}}}}, {Name: "a"}},
		{{Name: "a", At: pos(-5, math.MaxInt), Ons: []On{{At: pos(math.MinInt, 0)}}}},
	} {
		c := Chart{States: list}
		wantNodes(t, c, told(list, -1, 0, nil))
		wantStates(t, c)
	}
	// Values that aren't expressions are answered as they are.
	s, ok := State(Chart{States: []CState{{Ons: []On{loudly}}}}, 0)
	if !ok || fmt.Sprint(s.Ons) != fmt.Sprint([]On{loudly}) {
		t.Error(s, ok)
	}
}

// P9.1: a state is answered with what lies in it, however deep, and with all places.
func TestDeepStates(t *testing.T) {
	const n = 1 << 16
	c := Chart{States: deep(n)}
	for _, i := range []int{0, 1, n / 2, n - 1} {
		s, ok := State(c, i)
		if !ok {
			t.Fatal(i)
		}
		for k := i; k < n; k++ {
			if s.Name != "s"+strconv.Itoa(k) || s.At != pos(k+1, 1) || len(s.Inner) != min(1, n-1-k) {
				t.Fatal(i, k, s.Name, s.At)
			}
			if k < n-1 {
				s = s.Inner[0]
			}
		}
	}
	if s, ok := State(c, n); ok || !sameState(s, CState{}) {
		t.Error(s.Name, ok)
	}
}

// P9.2: what Nodes tells is formed, with any names, all and end; and no nodes are.
func TestFormed(t *testing.T) {
	for _, l := range [][]Node{nil, {}, make([]Node, 0, 3)} {
		if !Formed(l) {
			t.Error("no nodes")
		}
	}
	for _, c := range append(smallCharts(5), Chart{States: deep(40)}, Chart{States: wide(40)}) {
		l := Nodes(c)
		for k := range 8 {
			for i := range l {
				l[i].Name = []string{"", "a", "\xff", "if", l[i].Name}[(k+i)%5]
				l[i].All = k&1 > 0 != (i == 1)
				l[i].End = k&2 > 0 != (i == 2)
				if k&4 > 0 {
					l[i].Name = "same"
				}
			}
			if !Formed(l) {
				t.Error(l)
			}
		}
	}
	for _, n := range []int{39, 40, 41, 42, 100, 1 << 16} {
		for _, list := range [][]CState{wide(n), {{Inner: wide(n - 1)}}} {
			if l := told(list, -1, 0, nil); Formed(l) != (n <= api.MaxStates) {
				t.Error(n)
			}
		}
	}
	if Formed(told(deep(41), -1, 0, nil)) || !Formed(told(deep(40), -1, 0, nil)) {
		t.Error("deep")
	}
}

// shape is all that Formed asks of nodes, as a key.
func shape(l []Node) string {
	s := ""
	for _, n := range l {
		s += fmt.Sprint(n.Parent, n.Depth, n.Behind, n.Leaf, ";")
	}
	return s
}

// shapes is all that up to most nodes can be told of states.
func shapes(most int) map[string]bool {
	all := map[string]bool{}
	for _, c := range smallCharts(most) {
		all[shape(told(c.States, -1, 0, nil))] = true
	}
	return all
}

// P9.2: of all nodes with numbers in some range, just those are formed that are some states'.
func TestFormedAmongAll(t *testing.T) {
	for n, want := range []int{1, 1, 2, 5} {
		right := shapes(n)
		l := make([]Node, n)
		count := 0
		var turn func(i int)
		turn = func(i int) {
			if i == n {
				if Formed(l) {
					count++
					if !right[shape(l)] {
						t.Error(l)
					}
				}
				return
			}
			for parent := -2; parent <= n; parent++ {
				for depth := -1; depth <= n; depth++ {
					for behind := 0; behind <= n+1; behind++ {
						l[i] = Node{Parent: parent, Depth: depth, Behind: behind}
						turn(i + 1)
						l[i].Leaf = true
						turn(i + 1)
					}
				}
			}
		}
		turn(0)
		if count != want {
			t.Errorf("%d nodes: %d formed, want %d", n, count, want)
		}
	}
}

// turned visits l with each one of its Parents, Depths, Behinds and Leafs turned.
func turned(l []Node, visit func(l []Node)) {
	n := len(l)
	var numbers []int
	for k := -3; k <= n+3; k++ {
		numbers = append(numbers, k)
	}
	numbers = append(numbers, math.MinInt, math.MaxInt, math.MinInt32, math.MaxInt32, 1<<32, -1<<32)
	for i := range l {
		was := l[i]
		for _, field := range []*int{&l[i].Parent, &l[i].Depth, &l[i].Behind} {
			for _, k := range numbers {
				if *field != k {
					*field = k
					visit(l)
					l[i] = was
				}
			}
			for _, k := range []int{*field + 1, *field - 1, *field + 1<<32, -*field - 1} {
				*field = k
				visit(l)
				l[i] = was
			}
		}
		l[i].Leaf = !l[i].Leaf
		visit(l)
		l[i] = was
	}
}

// wantUnformed fails unless l isn't formed, and nothing is answered of it.
func wantUnformed(t *testing.T, l []Node) {
	t.Helper()
	if Formed(l) {
		t.Fatal("formed:", l)
	}
	for i := range l {
		if Find(l, l[i].Name) != -1 || Within(l, i, i) || Within(l, i, -1) || Within(l, i, 0) || Meet(l, i, i) != -1 || Meet(l, i, len(l)-1) != -1 || len(Inner(l, i)) != 0 {
			t.Fatal("answered of:", l, i)
		}
	}
	if Within(l, -1, -1) || len(Inner(l, -1)) != 0 || Find(l, "") != -1 {
		t.Fatal("answered of:", l)
	}
}

// P9.2: nodes that are formed, but for one thing, aren't, and nothing is answered of them.
func TestOneThingWrong(t *testing.T) {
	for _, c := range append(smallCharts(6), read(t, pay), Chart{States: deep(40)}, Chart{States: wide(40)}) {
		turned(Nodes(c), func(l []Node) { wantUnformed(t, l) })
	}
	wantUnformed(t, told(wide(41), -1, 0, nil))
	wantUnformed(t, told(deep(41), -1, 0, nil))
	wantUnformed(t, make([]Node, 41))
	wantUnformed(t, make([]Node, 1))
}

// P9.2: nodes in another order, or cut off, are formed just where they are those of some states.
func TestMovedNodes(t *testing.T) {
	right := shapes(6)
	count := map[bool]int{}
	ask := func(l []Node) {
		got := Formed(l)
		count[got]++
		if got != right[shape(l)] {
			t.Error(got, l)
		}
	}
	for _, c := range smallCharts(6) {
		l := Nodes(c)
		for i := range l {
			ask(l[:i])
			ask(l[i:])
			ask(slices.Delete(slices.Clone(l), i, i+1))
			for j := range l {
				l[i], l[j] = l[j], l[i]
				ask(l)
				l[i], l[j] = l[j], l[i]
			}
			// All of one field moved by one place.
			moved := slices.Clone(l)
			for j := range l {
				moved[j].Parent = l[(j+i)%len(l)].Parent
			}
			ask(moved)
			moved = slices.Clone(l)
			for j := range l {
				moved[j].Depth = l[(j+i)%len(l)].Depth
			}
			ask(moved)
		}
	}
	if count[true] < 500 || count[false] < 500 {
		t.Error(count)
	}
}

// outer is the numbers of the states that i lies in, the innermost first.
func outer(l []Node, i int) []int {
	var list []int
	for k := l[i].Parent; k != -1; k = l[k].Parent {
		list = append(list, k)
	}
	return list
}

// strangeNumbers is numbers that are no state's of n, but not -1.
func strangeNumbers(n int) []int {
	return []int{-2, -3, -n - 2, math.MinInt, math.MinInt32, n, n + 1, n + 40, math.MaxInt32, math.MaxInt}
}

// wantPair fails unless Within and Meet answer of states i and j by the chapter's words, asked otherwise.
func wantPair(t *testing.T, l []Node, i, j int) {
	t.Helper()
	outI, outJ := outer(l, i), outer(l, j)
	if got, want := Within(l, i, j), i == j || slices.Contains(outI, j); got != want {
		t.Errorf("Within(%v, %d, %d) = %v", l, i, j, got)
	}
	want := -1
	for _, k := range outI {
		if slices.Contains(outJ, k) {
			want = max(want, k)
		}
	}
	if got := Meet(l, i, j); got != want {
		t.Errorf("Meet(%v, %d, %d) = %d, want %d", l, i, j, got, want)
	}
}

// wantInner fails unless Inner answers of i by the chapter's words, asked otherwise.
func wantInner(t *testing.T, l []Node, c Chart, i int) {
	t.Helper()
	list := c.States
	if i >= 0 {
		list = flat(c.States)[i].Inner
	}
	var want []int
	next := i + 1
	for _, s := range list {
		want = append(want, next)
		next += len(flat([]CState{s}))
	}
	if got := Inner(l, i); !slices.Equal(got, want) {
		t.Errorf("Inner(%v, %d) = %v, want %v", l, i, got, want)
	}
}

// wantRelations fails unless all is answered of l, which is c's, as it should be, for states and other numbers.
func wantRelations(t *testing.T, c Chart, l []Node) {
	t.Helper()
	wantInner(t, l, c, -1)
	if !Within(l, -1, -1) {
		t.Error("-1 isn't in -1")
	}
	for i := range l {
		wantInner(t, l, c, i)
		if !Within(l, i, -1) || Within(l, -1, i) || Meet(l, i, -1) != -1 || Meet(l, -1, i) != -1 {
			t.Error("-1", l, i)
		}
		for j := range l {
			wantPair(t, l, i, j)
		}
	}
	for _, x := range strangeNumbers(len(l)) {
		if len(Inner(l, x)) != 0 || Within(l, x, -1) || Within(l, -1, x) || Within(l, x, x) || Meet(l, x, x) != -1 || Meet(l, x, -1) != -1 || Meet(l, -1, x) != -1 {
			t.Error("no state:", l, x)
		}
		for i := range l {
			if Within(l, x, i) || Within(l, i, x) || Meet(l, x, i) != -1 || Meet(l, i, x) != -1 {
				t.Error("no state:", l, x, i)
			}
		}
	}
	if Meet(l, -1, -1) != -1 {
		t.Error("Meet of -1 and -1")
	}
}

// P9.2: Within, Meet and Inner of each pair of numbers.
func TestRelations(t *testing.T) {
	charts := append(smallCharts(6), read(t, pay), read(t, example), Chart{States: deep(40)}, Chart{States: wide(40)}, Chart{States: append(deep(17), append(wide(5), deep(18)...)...)})
	for _, c := range charts {
		wantRelations(t, c, Nodes(c))
	}
}

// P9.2: some answers, written out.
func TestRelationsOfPay(t *testing.T) {
	l := Nodes(read(t, pay))
	for _, x := range [][3]int{{3, 4, 2}, {4, 3, 2}, {3, 5, 1}, {2, 5, 1}, {0, 6, -1}, {2, 3, 1}, {3, 2, 1}, {1, 3, -1}, {3, 1, -1}, {1, 1, -1}, {4, 4, 2}, {5, 5, 1}, {5, 6, -1}, {9, 1, -1}, {3, 7, -1}, {-1, 3, -1}} {
		if m := Meet(l, x[0], x[1]); m != x[2] {
			t.Error(x, m)
		}
	}
	for i, want := range [][]int{{}, {2, 5}, {3, 4}, {}, {}, {}, {}, {}} {
		if got := Inner(l, i); !slices.Equal(got, want) {
			t.Error(i, got)
		}
	}
	if got := Inner(l, -1); !slices.Equal(got, []int{0, 1, 6}) {
		t.Error(got)
	}
	for i := -2; i < 9; i++ {
		if got := Within(l, i, 1); got != (1 <= i && i <= 5) {
			t.Error(i, got)
		}
		if got := Within(l, i, 2); got != (2 <= i && i <= 4) {
			t.Error(i, got)
		}
		if got := Within(l, i, -1); got != (-1 <= i && i <= 6) {
			t.Error(i, got)
		}
	}
}

// P9.2: Find answers the first number of a name, byte by byte.
func TestFind(t *testing.T) {
	l := Nodes(read(t, pay))
	for i, n := range l {
		if got := Find(l, n.Name); got != i {
			t.Error(n.Name, got)
		}
	}
	for _, name := range []string{"", "q", "A", "a ", " a", "aa", "pay", "\xff", "n", "а"} {
		if got := Find(l, name); got != -1 {
			t.Errorf("Find(%q) = %d", name, got)
		}
		// And of two the first one.
		for i := range l {
			for j := range l {
				two := slices.Clone(l)
				two[i].Name, two[j].Name = name, name
				if got := Find(two, name); got != min(i, j) {
					t.Errorf("Find(%q) = %d of %d, %d", name, got, i, j)
				}
			}
		}
	}
	if Find(nil, "") != -1 || Find([]Node{}, "a") != -1 {
		t.Error("of no nodes")
	}
}
