package tree

import (
	"fmt"
	"math"
	"reflect"
	"slices"
	"testing"
	"unsafe"

	"tumbrel/api"
	"tumbrel/chart"
	"tumbrel/expr"
)

// dice are numbers that aren't alike, the same ones each time.
type dice uint32

func (d *dice) upTo(n int) int {
	*d = *d*1664525 + 1013904223
	return int(*d>>8) % n
}

// strange is numbers at the edges, and near states' ones.
func (d *dice) strange() int {
	edges := []int{math.MinInt, math.MaxInt, math.MinInt32, math.MaxInt32, 1 << 32, -1}
	if d.upTo(4) > 0 {
		return d.upTo(44) - 2
	}
	return edges[d.upTo(len(edges))]
}

// R1: of any nodes and numbers all calls end, and none panics; what is answered of nodes that aren't formed is nothing.
func TestAnyNodes(t *testing.T) {
	d := dice(1)
	for range 20000 {
		l := make([]Node, d.upTo(44))
		for i := range l {
			l[i] = Node{Name: "a", Parent: d.strange(), Depth: d.strange(), Behind: d.strange(), All: d.upTo(2) > 0, Leaf: d.upTo(2) > 0}
		}
		i, j := d.strange(), d.strange()
		formed := Formed(l)
		if formed && len(l) > 3 {
			t.Error("formed by chance", l)
		}
		found, within, meet, inner := Find(l, "a"), Within(l, i, j), Meet(l, i, j), Inner(l, i)
		if !formed && (found != -1 || within || meet != -1 || len(inner) != 0) {
			t.Error(l, i, j, found, within, meet, inner)
		}
	}
	huge := make([]Node, 1<<20)
	for i := range huge {
		huge[i] = Node{Parent: -1, Behind: i + 1, Leaf: true}
	}
	wantUnformed(t, huge[:41])
	if Formed(huge) || Find(huge, "") != -1 || Within(huge, 1, 1) || Meet(huge, 1, 2) != -1 || len(Inner(huge, -1)) != 0 {
		t.Error("huge")
	}
}

// R1: states that lie in themselves, or are very many by shared lists, have no nodes, and each first state that has an end is answered.
func TestStrangeCharts(t *testing.T) {
	loop := []CState{{Name: "a", At: pos(1, 1)}, {Name: "b"}}
	loop[1].Inner = loop
	shared := []CState{{Name: "a", At: pos(1, 1)}}
	for range 60 {
		shared = []CState{shared[0], {Name: "b", Inner: shared}, {Name: "b", Inner: shared}}
	}
	for _, list := range [][]CState{loop, shared} {
		c := Chart{States: list}
		if l := Nodes(c); len(l) != 0 {
			t.Error(l)
		}
		for _, i := range []int{-1, math.MinInt} {
			if s, ok := State(c, i); ok || !sameState(s, CState{}) {
				t.Error(s, ok)
			}
		}
		if s, ok := State(c, 0); !ok || !sameState(s, list[0]) {
			t.Error(s, ok)
		}
		if s, ok := State(c, 2); !ok || !sameState(s, list[0]) {
			t.Error(s, ok)
		}
	}
	const n = 1 << 18
	c := Chart{States: wide(n)}
	for _, i := range []int{0, 1, 41, n / 2, n - 1} {
		if s, ok := State(c, i); !ok || !sameState(s, c.States[i]) {
			t.Error(i, s, ok)
		}
	}
	if s, ok := State(c, n); ok || !sameState(s, CState{}) || len(Nodes(c)) != 0 {
		t.Error(s, ok)
	}
}

// R2, R5: what is asked once more is answered alike, whatever was asked between.
func TestNothingIsKept(t *testing.T) {
	c, other := read(t, pay), read(t, example)
	for range 3 {
		wantNodes(t, c, told(c.States, -1, 0, nil))
		wantNodes(t, other, told(other.States, -1, 0, nil))
		wantNodes(t, Chart{}, nil)
		wantStates(t, c)
		wantStates(t, other)
		l, m := Nodes(c), Nodes(other)
		wantRelations(t, c, l)
		wantUnformed(t, make([]Node, 3))
		wantRelations(t, other, m)
		wantRelations(t, c, l)
	}
}

// R4: lists of no elements are alike, nil or empty.
func TestNoElements(t *testing.T) {
	for _, none := range [][]CState{nil, {}, make([]CState, 0, 9)} {
		c := Chart{States: none}
		wantNodes(t, c, nil)
		wantStates(t, c)
		c.States = []CState{{Name: "a", Inner: none, Ons: []On{}}, {Name: "b", Ons: []On{{Sets: []Set{}}}, Inner: none}}
		wantNodes(t, c, []Node{{Name: "a", Parent: -1, Behind: 1, Leaf: true}, {Name: "b", Parent: -1, Behind: 2, Leaf: true}})
		wantStates(t, c)
	}
	for _, l := range [][]Node{nil, {}, make([]Node, 0, 9)} {
		wantRelations(t, Chart{}, l)
	}
}

// eachThing visits each thing that v has: its fields, its lists, and their members.
func eachThing(v reflect.Value, visit func(v reflect.Value)) {
	switch v.Kind() {
	case reflect.Struct:
		for i := range v.NumField() {
			eachThing(v.Field(i), visit)
		}
		return
	case reflect.Slice:
		for i := range v.Len() {
			eachThing(v.Index(i), visit)
		}
	}
	visit(v)
}

// spoil puts something else in v's stead, but not of lists.
func spoil(v reflect.Value) {
	switch v.Kind() {
	case reflect.String:
		v.SetString("spoilt")
	case reflect.Int, reflect.Int64:
		v.SetInt(v.Int() + 77)
	case reflect.Bool:
		v.SetBool(!v.Bool())
	case reflect.Interface:
		v.Set(reflect.ValueOf(expr.Lit{N: 77}))
	}
}

// roomy gives each list spare room, with something in it.
func roomy(p any) {
	eachThing(reflect.ValueOf(p).Elem(), func(v reflect.Value) {
		if v.Kind() != reflect.Slice {
			return
		}
		list := reflect.MakeSlice(v.Type(), v.Len()+50, v.Len()+50)
		reflect.Copy(list, v)
		for i := v.Len(); i < list.Len(); i++ {
			eachThing(list.Index(i), spoil)
		}
		v.Set(list.Slice(0, v.Len()))
	})
}

// rooms is what stands in all that p has, in the spare room of its lists too.
func rooms(p any) string {
	s := fmt.Sprintf("%#v\n", p)
	eachThing(reflect.ValueOf(p).Elem(), func(v reflect.Value) {
		if v.Kind() == reflect.Slice {
			s += fmt.Sprintf("%#v\n", v.Slice(0, v.Cap()).Interface())
		}
	})
	return s
}

// R3: what is handed in is left as it is, its spare room too, and the spare room counts for nothing.
func TestArgumentsAreLeft(t *testing.T) {
	for _, c := range append(smallCharts(4), read(t, pay), Chart{States: deep(12)}, Chart{States: wide(41)}) {
		roomy(&c)
		before := rooms(&c)
		if len(c.States) < 41 {
			wantNodes(t, c, told(c.States, -1, 0, nil))
		}
		wantStates(t, c)
		l := Nodes(c)
		if rooms(&c) != before {
			t.Error("a chart is changed")
		}
		roomy(&l)
		before = rooms(&l)
		if len(c.States) < 41 {
			wantRelations(t, c, l)
		}
		if len(l) > 0 && Find(l, l[len(l)-1].Name) != len(l)-1 || Find(l, "spoilt") != -1 || rooms(&l) != before {
			t.Error("nodes are changed")
		}
	}
}

// wantOwnMemory fails unless all that p has, the spare room of its lists too, can be changed without changing what the others have.
func wantOwnMemory(t *testing.T, p any, others ...any) {
	t.Helper()
	before := ""
	for _, o := range others {
		before += rooms(o)
	}
	eachThing(reflect.ValueOf(p).Elem(), func(v reflect.Value) {
		if v.Kind() == reflect.Slice {
			room := v.Slice(0, v.Cap())
			for i := v.Len(); i < v.Cap(); i++ {
				eachThing(room.Index(i), spoil)
			}
		}
		spoil(v)
	})
	after := ""
	for _, o := range others {
		after += rooms(o)
	}
	if before != after {
		t.Errorf("%T shares memory", p)
	}
}

// R3: what is answered is new memory.
func TestAnswersAreNew(t *testing.T) {
	c := read(t, pay)
	roomy(&c)
	one, two := Nodes(c), Nodes(c)
	wantOwnMemory(t, &one, &two, &c)
	for i := range two {
		a, _ := State(c, i)
		b, _ := State(c, i)
		wantOwnMemory(t, &a, &b, &c)
	}
	for i := -1; i < len(two); i++ {
		a, b := Inner(two, i), Inner(two, i)
		wantOwnMemory(t, &a, &b, &two)
	}
}

// R3: no two lists of one answered state share memory, not even where they did in the chart.
func TestListsAreTheirOwn(t *testing.T) {
	ons := []On{{Event: "e", At: pos(1, 2), Sets: []Set{{Name: "n", To: expr.Lit{N: 1}}}}}
	leaf := []CState{{Name: "b", Ons: ons}, {Name: "c", Ons: ons}}
	c := Chart{States: []CState{{Name: "a", Ons: ons, Inner: []CState{{Name: "d", Ons: ons, Inner: leaf}, {Name: "e", Inner: leaf}}}}}
	want, _ := State(c, 0)
	s, ok := State(c, 0)
	if !ok || !sameState(s, c.States[0]) {
		t.Fatal(s, ok)
	}
	// Each list's members, and its spare room, are changed, and nothing else is.
	eachThing(reflect.ValueOf(&s).Elem(), func(v reflect.Value) {
		if v.Kind() != reflect.Slice {
			return
		}
		room := v.Slice(0, v.Cap())
		was := reflect.MakeSlice(v.Type(), room.Len(), room.Len())
		reflect.Copy(was, room)
		count := 0
		for i := range room.Len() {
			eachThing(room.Index(i).Field(0), spoil)
		}
		eachThing(reflect.ValueOf(&s).Elem(), func(x reflect.Value) {
			if x.Kind() == reflect.String && x.String() == "spoilt" {
				count++
			}
		})
		if count != v.Len() {
			t.Error("changed:", count, "of", v.Len(), v.Type())
		}
		reflect.Copy(room, was)
	})
	if !sameState(s, want) {
		t.Error(s)
	}
}

// R3: the texts of what is answered are not the chart's.
func TestTextsAreNew(t *testing.T) {
	bytes := []byte("abcdefghi")
	text := func(i int) string { return unsafe.String(&bytes[i], 1) }
	on := On{Event: text(3), Target: text(4), At: pos(5, 6), Guard: expr.Bin{Op: "<", L: expr.Ref{Name: text(5)}, R: expr.Lit{N: 1}}, Sets: []Set{{Name: text(6), To: expr.Neg{X: expr.Ref{Name: text(7)}}}}}
	c := Chart{States: []CState{{Name: text(0), At: pos(1, 2), Do: text(1), Undo: text(2), Ons: []On{on}, Inner: []CState{{Name: text(8)}}}}}
	l := Nodes(c)
	s, ok := State(c, 0)
	for i := range bytes {
		bytes[i] = '#'
	}
	want := CState{Name: "a", At: pos(1, 2), Do: "b", Undo: "c", Inner: []CState{{Name: "i"}}, Ons: []On{{Event: "d", Target: "e", At: pos(5, 6),
		Guard: expr.Bin{Op: "<", L: expr.Ref{Name: "f"}, R: expr.Lit{N: 1}}, Sets: []Set{{Name: "g", To: expr.Neg{X: expr.Ref{Name: "h"}}}}}}}
	if !ok || !sameState(s, want) {
		t.Error(s)
	}
	if l[0].Name != "a" || l[1].Name != "i" {
		t.Error(l)
	}
}

// R1 to R7, by many charts of all that layer 6 reads: what is read deep is as what is made deep.
func TestReadCharts(t *testing.T) {
	d := dice(7)
	var states func(room *int, depth int) string
	states = func(room *int, depth int) string {
		s := ""
		for *room > 0 && d.upTo(4) > 0 {
			*room--
			kind := []string{"", "all ", "end ", "do x undo y at 2 retries 3 "}[d.upTo(4)]
			s += fmt.Sprintf("state s%d { %s", d.upTo(20), kind)
			if d.upTo(2) > 0 {
				s += "on e if n < 2 go t set n = n + 1 "
			}
			if depth < api.MaxDeep {
				s += states(room, depth+1)
			}
			s += "on f go u }\n"
		}
		return s
	}
	count := map[bool]int{}
	for range 2000 {
		room := d.upTo(70)
		c := read(t, "chart c 1 {\n"+states(&room, 1)+"}")
		want := told(c.States, -1, 0, nil)
		tooMany := len(want) > api.MaxStates
		if tooMany {
			want = nil
		}
		count[tooMany]++
		wantNodes(t, c, want)
		wantStates(t, c)
		if len(want) > 0 {
			found := slices.IndexFunc(want, func(n Node) bool { return n.Name == "s3" })
			if got := Find(want, "s3"); got != found {
				t.Error(got, found)
			}
			wantRelations(t, c, want)
			if again := Nodes(chart.Strip(c)); !slices.Equal(again, want) {
				t.Error("places count", again)
			}
		}
	}
	if count[true] < 50 || count[false] < 50 {
		t.Error(count)
	}
}
