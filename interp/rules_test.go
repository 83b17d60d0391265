package interp

import (
	"fmt"
	"math"
	"slices"
	"testing"

	"tumbrel/api"
	"tumbrel/chart"
	"tumbrel/check"
	"tumbrel/expr"
	"tumbrel/react"
	"tumbrel/table"
	"tumbrel/tree"
)

// dice are numbers that aren't alike, the same ones each time.
type dice uint32

func (d *dice) upTo(n int) int {
	*d = *d*1664525 + 1013904223
	return int(*d>>8) % n
}

// name is a name of its own for each number.
func name(kind string, i int) string {
	return kind + string(rune('a'+i/26)) + string(rune('a'+i%26))
}

// expression is a small one, of some of the variables, which may well be out of range.
func (d *dice) expression(vars []chart.Var, room int) expr.Expr {
	kind := d.upTo(5)
	if room == 0 {
		kind = d.upTo(2)
	}
	switch kind {
	case 0:
		return expr.Lit{N: []int64{0, 1, 2, 3, api.MaxInt}[d.upTo(5)]}
	case 1:
		if len(vars) == 0 {
			return expr.Lit{N: 1}
		}
		return expr.Ref{Name: vars[d.upTo(len(vars))].Name}
	case 2:
		return expr.Not{X: d.expression(vars, room-1)}
	case 3:
		return expr.Neg{X: d.expression(vars, room-1)}
	}
	op := []string{"+", "-", "*", "<", "<=", "==", "!=", "&&", "||"}[d.upTo(9)]
	return expr.Bin{Op: op, L: d.expression(vars, room-1), R: d.expression(vars, room-1)}
}

// number is one that a variable may have, often near an edge.
func (d *dice) number() int64 {
	if d.upTo(3) == 0 {
		return []int64{api.MaxInt, -api.MaxInt, api.MaxInt - 1, 1 - api.MaxInt}[d.upTo(4)]
	}
	return int64(d.upTo(7) - 3)
}

// states is some states without ons that lie in one another, at most room deep, fewer than are left; a state with all lies in none with all.
func (d *dice) states(left *int, next *int, room int, all bool) []chart.State {
	var l []chart.State
	for n := 1 + d.upTo(4); n > 0 && *left > 0; n-- {
		s := chart.State{Name: name("s", *next)}
		*left--
		*next++
		if room > 1 && d.upTo(2) == 0 {
			hold := !all && d.upTo(2) == 0
			s.Inner = d.states(left, next, room-1, all || hold)
			s.All = hold && len(s.Inner) > 1
		}
		switch {
		case len(s.Inner) > 0:
		case d.upTo(4) == 0:
			s.End = true
		default:
			s.Do, s.Undo, s.Where, s.Retries = "x", "y", d.upTo(4), d.upTo(6)
		}
		l = append(l, s)
	}
	return l
}

// giveOns gives states ons that neither leap nor, of done, go back.
func (d *dice) giveOns(c *chart.Chart, l []chart.State, nodes []tree.Node) {
	for k := range l {
		s := &l[k]
		i := tree.Find(nodes, s.Name)
		for n := d.upTo(5); n > 0 && !s.End; n-- {
			event := []string{"done", "e", "f"}[d.upTo(3)]
			to := d.upTo(len(nodes))
			scope := tree.Meet(nodes, i, to)
			if scope >= 0 && nodes[scope].All || event == "done" && (s.Do == "" || to <= i) {
				continue
			}
			o := chart.On{Event: event, Target: nodes[to].Name}
			if d.upTo(2) == 0 {
				o.Guard = d.expression(c.Vars, 3)
			}
			for m := d.upTo(4); m > 0 && len(c.Vars) > 0; m-- {
				o.Sets = append(o.Sets, chart.Set{Name: c.Vars[d.upTo(len(c.Vars))].Name, To: d.expression(c.Vars, 3)})
			}
			s.Ons = append(s.Ons, o)
		}
		d.giveOns(c, s.Inner, nodes)
	}
}

// chart is a right one.
func (d *dice) chart(t *testing.T, most int) chart.Chart {
	t.Helper()
	c := chart.Chart{Name: "c", Version: 1}
	for k := range d.upTo(4) {
		c.Vars = append(c.Vars, chart.Var{Name: name("v", k), N: d.number()})
	}
	left, next := 1+d.upTo(most), 0
	c.States = d.states(&left, &next, api.MaxDeep, false)
	d.giveOns(&c, c.States, tree.Nodes(c))
	if at, e := check.Check(c); e != api.OK {
		t.Fatal(at, e, c)
	}
	return c
}

// told is the value of the code that is still to be done, given what is on the stack, the top first, by the chapter's words: each instruction hands on a new stack.
func told(code []table.Instr, vars, stack numbers) (int64, api.Errno) {
	if len(code) == 0 {
		if len(stack) != 1 {
			return 0, api.ErrForm
		}
		return stack[0], api.OK
	}
	i, rest := code[0], code[1:]
	takes := map[string]int{"push": 0, "load": 0, "not": 1, "neg": 1, "bool": 1, "and": 1, "or": 1, "+": 2, "-": 2, "*": 2, "<": 2, "<=": 2, "==": 2, "!=": 2}
	n, known := takes[i.Op]
	if !known || len(stack) < n {
		return 0, api.ErrForm
	}
	with := func(value int64) (int64, api.Errno) {
		if value > 1000000000 || value < -1000000000 {
			return 0, api.ErrRange
		}
		return told(rest, vars, append(numbers{value}, stack[n:]...))
	}
	as := map[bool]int64{true: 1}
	switch i.Op {
	case "push":
		if i.N < 0 {
			return 0, api.ErrRange
		}
		return with(i.N)
	case "load":
		for k, number := range vars {
			if int64(k) == i.N {
				return with(number)
			}
		}
		return 0, api.ErrForm
	case "not":
		return with(as[stack[0] == 0])
	case "neg":
		return with(-stack[0])
	case "bool":
		return with(as[stack[0] != 0])
	case "and", "or":
		if i.N < 0 || i.N > int64(len(rest)) {
			return 0, api.ErrForm
		}
		if is := stack[0] != 0; is == (i.Op == "or") {
			return told(rest[i.N:], vars, append(numbers{as[is]}, stack[1:]...))
		}
		return told(rest, vars, stack[1:])
	}
	l, r := stack[1], stack[0]
	return with(map[string]int64{"+": l + r, "-": l - r, "*": l * r, "<": as[l < r], "<=": as[l <= r], "==": as[l == r], "!=": as[l != r]}[i.Op])
}

// wantTold fails if Run isn't as it is told; it answers Run's error.
func wantTold(t *testing.T, code []table.Instr, vars numbers) api.Errno {
	t.Helper()
	n, no := Run(code, vars)
	if want, e := told(code, vars, nil); n != want || no != e {
		t.Errorf("Run(%v, %v) = %d %v, want %d %v", code, vars, n, no, want, e)
	}
	return no
}

// P13.1, R1: each code of up to four of these instructions.
func TestEachCode(t *testing.T) {
	all := instrs("push 0, push 2, push 1000000000, push -1, load 0, load 1, load 2, not, neg, bool, and 0, or 0, and 1, or 1, and 2, or 2, and -1, +, -, *, <=, ==, what")
	vars := numbers{-3, api.MaxInt + 1}
	var met [api.ErrMap]int
	var longer func(code []table.Instr)
	longer = func(code []table.Instr) {
		met[wantTold(t, code, vars)]++
		for _, i := range all {
			if len(code) < 4 {
				longer(append(slices.Clone(code), i))
			}
		}
	}
	longer(nil)
	if met[api.OK] < 500 || met[api.ErrForm] < 100000 || met[api.ErrRange] < 10000 {
		t.Error(met)
	}
}

// instr is one that often does something with a stack that deep.
func (d *dice) instr(deep, behind int) table.Instr {
	if d.upTo(60) == 0 {
		return table.Instr{Op: []string{"", "&&", "||", "what", "push ", "!"}[d.upTo(6)], N: int64(d.strange())}
	}
	if deep == 0 || d.upTo(3) == 0 {
		if d.upTo(2) == 0 {
			return table.Instr{Op: "load", N: int64(d.upTo(4))}
		}
		return table.Instr{Op: "push", N: max(d.number(), -d.number(), 0)}
	}
	if d.upTo(4) == 0 {
		return table.Instr{Op: []string{"and", "or"}[d.upTo(2)], N: int64(d.upTo(min(behind, 5) + 1))}
	}
	if deep == 1 || d.upTo(3) == 0 {
		return table.Instr{Op: []string{"not", "neg", "bool"}[d.upTo(3)]}
	}
	return table.Instr{Op: []string{"+", "-", "*", "<", "<=", "==", "!="}[d.upTo(7)]}
}

// P13.1, R1: many long codes, and what they leave on the stack folded, so that it is to be seen.
func TestManyCodes(t *testing.T) {
	d := dice(13)
	var met [api.ErrMap]int
	for range 60000 {
		vars := make(numbers, 4)
		for k := range vars {
			vars[k] = d.number()
		}
		length := d.upTo(25)
		var code []table.Instr
		deep := 0
		for len(code) < length {
			i := d.instr(deep, length-len(code)-1)
			code = append(code, i)
			switch i.Op {
			case "push", "load":
				deep++
			case "+", "-", "*", "<", "<=", "==", "!=":
				deep--
			}
		}
		met[wantTold(t, code, vars)]++
		for range deep - 1 {
			code = append(code, table.Instr{Op: []string{"-", "<", "!="}[d.upTo(3)]})
		}
		met[wantTold(t, code, vars)]++
	}
	if met[api.OK] < 20000 || met[api.ErrForm] < 20000 || met[api.ErrRange] < 5000 {
		t.Error(met)
	}
}

// P13.3: of many expressions' code Run tells what Eval does; of two variables of one name the first one counts, and some are out of range.
func TestManyExpressions(t *testing.T) {
	d := dice(31)
	var met [api.ErrMap]int
	for range 40000 {
		vars := make([]api.Var, 1+d.upTo(5))
		refs := make([]chart.Var, len(vars))
		for k := range vars {
			vars[k] = api.Var{Name: name("v", d.upTo(4)), N: d.number()}
			if d.upTo(20) == 0 {
				vars[k].N = numbers{api.MaxInt + 1, -api.MaxInt - 1, math.MaxInt64, math.MinInt64}[d.upTo(4)]
			}
			refs[k].Name = vars[k].Name
		}
		if e := d.expression(refs, 5); expr.Formed(e) {
			met[wantEval(t, e, vars)]++
		}
	}
	if met[api.OK] < 20000 || met[api.ErrRange] < 1500 || met[api.OK]+met[api.ErrRange] < 30000 {
		t.Error(met)
	}
}

// P13.3: the greatest expressions: of 40 parts, and 12 deep, with each operator.
func TestGreatestExpressions(t *testing.T) {
	vars := []api.Var{{Name: "a", N: 1}}
	var wide func(op string, parts int) expr.Expr
	wide = func(op string, parts int) expr.Expr {
		if parts < 2 {
			return expr.Ref{Name: "a"}
		}
		left := (parts - 1) / 2
		if left%2 == 0 {
			left++
		}
		return expr.Bin{Op: op, L: wide(op, left), R: wide(op, parts-1-left)}
	}
	for _, op := range []string{"+", "-", "*", "<", "<=", "==", "!=", "&&", "||"} {
		e := expr.Expr(expr.Not{X: wide(op, api.MaxNodes-1)})
		if expr.Nodes(e) != api.MaxNodes {
			t.Error(expr.Nodes(e))
		}
		wantEval(t, e, vars)
		deep := expr.Expr(expr.Lit{N: 2})
		for range api.MaxNest - 1 {
			deep = expr.Bin{Op: op, L: expr.Ref{Name: "a"}, R: deep}
		}
		wantEval(t, deep, vars)
		if expr.Formed(expr.Neg{X: deep}) {
			t.Error("not the deepest one")
		}
	}
}

// wantAsChart fails if Take of c's table isn't layer 11's Take of c; it answers what that is, and whether there is something.
func wantAsChart(t *testing.T, c chart.Chart, x table.Table, s Situation, event string, done int) (Situation, bool) {
	t.Helper()
	next, effect, ok := react.Take(c, react.Situation(s), event, done)
	if ok {
		wantTake(t, x, s, event, done, Situation(next), Effect(effect))
	} else {
		wantNothing(t, x, s, event, done)
	}
	return Situation(next), ok
}

// P13.2: long ways through many charts: each step is the chart's.
func TestLongWays(t *testing.T) {
	d := dice(11)
	taken, ends, guards, sets := 0, 0, 0, 0
	for range 1500 {
		c := d.chart(t, 14)
		x := made(t, c)
		first, e := react.Start(c)
		s := start(x)
		if e != api.OK || !sameSituation(s, Situation(first)) {
			t.Fatal(s, first, e)
		}
		for _, r := range x.Rows {
			guards += min(1, len(r.Guard))
			sets += len(r.Sets)
		}
		for range 25 {
			s.Busy = d.someBusy(c, s.Active)
			if d.upTo(4) == 0 {
				for k := range s.Vars {
					s.Vars[k] = d.number()
				}
			}
			event := []string{"done", "e", "f", "g"}[d.upTo(4)]
			done := s.Active[len(s.Active)-1-d.upTo(min(2, len(s.Active)))]
			next, ok := wantAsChart(t, c, x, s, event, done)
			if !ok {
				ends++
				continue
			}
			taken++
			s = Situation{slices.Clone(next.Active), slices.Clone(next.Vars), nil}
		}
	}
	if taken < 5000 || ends < 5000 || guards < 1000 || sets < 1000 {
		t.Error(taken, ends, guards, sets)
	}
}

// ready is a chart that takes e wherever something is active: so of a situation that is none of its ones something would be taken, were it not asked.
const ready = `chart c 1 {
	var n = 0
	state s0 {
		all
		state s1 {
			state s2 { do x undo y at 0 retries 0 on e go s3 }
			state s3 { do x undo y at 0 retries 0 on e go s2 }
		}
		state s4 {
			state s5 { do x undo y at 0 retries 0 on e go s6 }
			state s6 { end }
		}
	}
	state s7 { do x undo y at 0 retries 0 on e go s0 }
}`

// P13.2: of each choice of active and busy states: of those that aren't legal, or have no step, nothing is taken.
func TestEachSituation(t *testing.T) {
	c := compile(t, ready)
	x := made(t, c)
	taken := 0
	for active := range 1 << 8 {
		for busy := range 1 << 8 {
			if _, ok := wantAsChart(t, c, x, Situation{chosen(active), numbers{5}, chosen(busy)}, "e", 0); ok {
				taken++
			}
		}
	}
	// In s2 and s5, or s3 and s5, unless both are busy; in s2 and s6, or s3 and s6, and in s7, unless that is.
	if taken != 3+3+1+1+1 {
		t.Error(taken)
	}
}

// P13.2: lists that hold one number twice, or another one than a state's, and variables' numbers at the edges.
func TestEachOrder(t *testing.T) {
	c := compile(t, ready)
	x := made(t, c)
	right := Situation{list{0, 1, 2, 4, 5}, numbers{0}, list{5}}
	at := func(change func(s *Situation), want bool) {
		t.Helper()
		s := Situation{slices.Clone(right.Active), slices.Clone(right.Vars), slices.Clone(right.Busy)}
		change(&s)
		if _, ok := wantAsChart(t, c, x, s, "e", 0); ok != want {
			t.Error(s, ok)
		}
	}
	at(func(s *Situation) {}, true)
	at(func(s *Situation) { s.Busy = nil }, true)
	at(func(s *Situation) { s.Busy = list{2} }, true)
	at(func(s *Situation) { s.Busy = list{2, 2} }, false)
	at(func(s *Situation) { s.Busy = list{5, 5} }, false)
	at(func(s *Situation) { s.Busy = list{-1, 5} }, false)
	at(func(s *Situation) { s.Busy = list{5, -1} }, false)
	at(func(s *Situation) { s.Busy = list{5, 8} }, false)
	at(func(s *Situation) { s.Busy = list{5, 7} }, false)
	at(func(s *Situation) { s.Busy = list{0, 5} }, false)
	at(func(s *Situation) { slices.Reverse(s.Active) }, false)
	at(func(s *Situation) { s.Active = append(s.Active, 5) }, false)
	at(func(s *Situation) { s.Active = append(s.Active, 8) }, false)
	at(func(s *Situation) { s.Active = append(list{-1}, s.Active...) }, false)
	for n, want := range map[int64]bool{0: true, api.MaxInt: true, -api.MaxInt: true, api.MaxInt + 1: false, -api.MaxInt - 1: false, math.MaxInt64: false, math.MinInt64: false} {
		at(func(s *Situation) { s.Vars[0] = n }, want)
	}
	at(func(s *Situation) { s.Vars = nil }, false)
	at(func(s *Situation) { s.Vars = numbers{0, 0} }, false)
}

// P13.2: busy states, where what is busy isn't left: they rise, or nothing is taken.
func TestBusyRises(t *testing.T) {
	c := compile(t, inChart("state A { all state B {"+step+"} state C {"+step+"} state D { state E {"+step+"on e go F } state F { end } } }"))
	x := made(t, c)
	for _, k := range []struct {
		busy list
		want bool
	}{
		{nil, true}, {list{1}, true}, {list{2}, true}, {list{1, 2}, true},
		{list{2, 1}, false}, {list{1, 1}, false}, {list{1, 2, 2}, false}, {list{1, 2, 1}, false}, {list{1, 2, 4}, false},
		{list{0}, false}, {list{3}, false}, {list{5}, false}, {list{1, 3}, false}, {list{6}, false}, {list{8}, false}, {list{math.MaxInt}, false}, {list{math.MinInt, 1}, false},
	} {
		if _, ok := wantAsChart(t, c, x, Situation{list{0, 1, 2, 3, 4}, nil, k.busy}, "e", 0); ok != k.want {
			t.Error(k, ok)
		}
	}
}

// someBusy is some of the active states that have a step.
func (d *dice) someBusy(c chart.Chart, active list) list {
	var busy list
	nodes := tree.Nodes(c)
	for _, i := range active {
		if nodes[i].Leaf && !nodes[i].End && d.upTo(4) == 0 {
			busy = append(busy, i)
		}
	}
	return busy
}

// strange is numbers at the edges, and near states' ones.
func (d *dice) strange() int {
	edges := list{math.MinInt, math.MaxInt, math.MinInt32, math.MaxInt32, 1 << 32, -1}
	if d.upTo(4) > 0 {
		return d.upTo(12) - 2
	}
	return edges[d.upTo(len(edges))]
}

// strangeList is up to most such numbers.
func (d *dice) strangeList(most int) list {
	l := make(list, d.upTo(most+1))
	for i := range l {
		l[i] = d.strange()
	}
	return l
}

// R1, R5, P13.2: of any situations Take is the chart's.
func TestAnySituations(t *testing.T) {
	d := dice(5)
	taken := 0
	for range 300 {
		c := d.chart(t, 8)
		x := made(t, c)
		for range 100 {
			s := start(x)
			switch d.upTo(4) {
			case 0:
				s.Active = d.strangeList(5)
			case 1:
				s.Busy = d.strangeList(3)
			case 2:
				s.Vars = append(s.Vars[:d.upTo(len(s.Vars)+1)], int64(d.strange()))
			}
			if _, ok := wantAsChart(t, c, x, s, []string{"done", "e", "f", ""}[d.upTo(4)], d.strange()); ok {
				taken++
			}
		}
	}
	if taken < 1000 {
		t.Error(taken)
	}
}

// spoiled is a table with something in it changed.
func (d *dice) spoiled(x table.Table) table.Table {
	x.Nodes, x.Vars, x.Steps, x.Rows = slices.Clone(x.Nodes), slices.Clone(x.Vars), slices.Clone(x.Steps), slices.Clone(x.Rows)
	for range 1 + d.upTo(3) {
		switch d.upTo(10) {
		case 0:
			x.Nodes = x.Nodes[:d.upTo(len(x.Nodes)+1)]
		case 1:
			if len(x.Nodes) > 0 {
				n := &x.Nodes[d.upTo(len(x.Nodes))]
				*[]*int{&n.Parent, &n.Depth, &n.Behind}[d.upTo(3)] = d.strange()
			}
		case 2:
			if len(x.Nodes) > 0 {
				n := &x.Nodes[d.upTo(len(x.Nodes))]
				at := []*bool{&n.All, &n.End, &n.Leaf}[d.upTo(3)]
				*at = !*at
			}
		case 3:
			x.Steps = x.Steps[:d.upTo(len(x.Steps)+1)]
		case 4:
			x.Vars = append(x.Vars[:d.upTo(len(x.Vars)+1)], api.Var{N: int64(d.strange())})
		default:
			if len(x.Rows) > 0 {
				d.spoilRow(&x.Rows[d.upTo(len(x.Rows))])
			}
		}
	}
	return x
}

// spoilRow changes something in a row.
func (d *dice) spoilRow(r *table.Row) {
	bad := []table.Instr{{Op: []string{"load", "or", "what", "+", "push"}[d.upTo(5)], N: int64(d.strange())}}
	switch d.upTo(5) {
	case 0:
		r.Guard = bad
	case 1:
		*[]*int{&r.State, &r.On, &r.Target, &r.Scope}[d.upTo(4)] = d.strange()
	case 2:
		r.Sets = append(slices.Clone(r.Sets), table.Assign{Var: d.strange(), Code: instrs("push 1")})
	case 3:
		r.Sets = append(slices.Clone(r.Sets), table.Assign{Code: bad})
	case 4:
		r.Event = "e"
	}
}

// R1, R5: of tables that are no chart's all calls end, and none panics; and beside false there is nothing.
func TestAnyTables(t *testing.T) {
	d := dice(17)
	taken, none := 0, 0
	for range 20000 {
		x := d.spoiled(made(t, d.chart(t, 8)))
		s := start(x)
		for range 4 {
			event, done := []string{"done", "e", "f"}[d.upTo(3)], d.upTo(6)
			if d.upTo(8) == 0 {
				s.Busy = d.strangeList(2)
			}
			next, _, ok := take(x, s, event, done)
			if !ok {
				wantNothing(t, x, s, event, done)
				none++
				continue
			}
			taken++
			s = next
		}
	}
	if taken < 5000 || none < 5000 {
		t.Error(taken, none)
	}
}

// R1: tables with nothing in them, with rows that name what there isn't, and very long ones, whose lists are shared.
func TestStrangeTables(t *testing.T) {
	good := tableOf(t, inChart("var n = 0 state A {"+step+"on e go z }"))
	s := Situation{list{0}, numbers{0}, nil}
	wantTake(t, good, s, "e", 0, Situation{list{2}, numbers{0}, nil}, Effect{0, 0, list{0}, list{2}})
	with := func(r table.Row) table.Table {
		x := good
		x.Rows = []table.Row{r}
		return x
	}
	wantNothing(t, table.Table{}, Situation{}, "e", 0)
	wantNothing(t, table.Table{Rows: good.Rows}, Situation{list{0}, nil, nil}, "e", 0)
	if got := start(table.Table{}); !sameSituation(got, Situation{}) {
		t.Error(got)
	}
	for _, n := range []int{-1, -2, 3, 40, math.MinInt, math.MaxInt, 1 << 32} {
		take(with(table.Row{State: n, Event: "e", Target: 1, Scope: -1}), s, "e", 0)
		take(with(table.Row{Event: "e", Target: n, Scope: -1}), s, "e", 0)
		take(with(table.Row{Event: "e", Target: 1, Scope: n}), s, "e", 0)
		take(with(table.Row{Event: "e", Target: 1, Scope: -1, Sets: []table.Assign{{Var: n, Code: instrs("push 1")}}}), s, "e", 0)
		take(with(table.Row{Event: "done", State: n, Target: 1, Scope: -1}), s, "done", n)
	}
	// Each row's last set has no value, so that all rows would be gone through.
	slow := append(instrs("push 1"), slices.Repeat(instrs("neg"), 999)...)
	sets := append(slices.Repeat([]table.Assign{{Code: slow}}, 1<<16), table.Assign{Var: -1})
	x := good
	x.Rows = slices.Repeat([]table.Row{{Event: "e", Guard: slow, Target: 1, Scope: -1, Sets: sets}}, 1<<16)
	wantNothing(t, x, s, "e", 0)
	x.Rows = x.Rows[:200]
	wantNothing(t, x, s, "e", 0)
	x.Rows = slices.Repeat([]table.Row{{Event: "e", Guard: make([]table.Instr, 1<<22), Target: 1, Scope: -1}}, 200)
	wantNothing(t, x, s, "e", 0)
	x = good
	x.Nodes, x.Steps = make([]tree.Node, 1<<20), make([]table.Step, 1<<20)
	wantNothing(t, x, s, "e", 0)
	start(x)
	x = good
	x.Vars = make([]api.Var, 1<<20)
	wantNothing(t, x, s, "e", 0)
	take(x, Situation{list{0}, make(numbers, 1<<20), nil}, "e", 0)
	start(x)
}

// R1: very long lists of a situation, and of variables.
func TestLongSituations(t *testing.T) {
	x := tableOf(t, pay)
	long := make(list, 1<<22)
	for i := range long {
		long[i] = i
	}
	for _, s := range []Situation{{long, numbers{0, 0}, nil}, {list{0}, make(numbers, 1<<22), nil}, {list{0}, numbers{0, 0}, long}} {
		wantNothing(t, x, s, "done", 0)
	}
	many := make(numbers, 1<<22)
	many[1<<22-1] = 7
	wantRun(t, "load 4194303", many, 7)
	wantNoValue(t, "load 4194304", many, api.ErrForm)
}

// R2, R5: what is asked once more is answered alike, whatever was asked between.
func TestNothingIsKept(t *testing.T) {
	one, two := tableOf(t, pay), tableOf(t, busyChart)
	for range 3 {
		wantStart(t, compile(t, pay), Situation{list{0}, numbers{0, -5}, nil})
		wantRun(t, "load 0, push 1, +", numbers{6}, 7)
		wantNoValue(t, "push 1, push 2, push 3", nil, api.ErrForm)
		wantRun(t, "push 4", nil, 4)
		wantNoValue(t, "push 1, +", nil, api.ErrForm)
		wantNoValue(t, "load 0", nil, api.ErrForm)
		wantStart(t, compile(t, busyChart), Situation{list{0, 1, 2, 3, 6, 7}, nil, nil})
		wantTake(t, one, Situation{list{0}, numbers{0, -5}, nil}, "done", 0, Situation{list{1, 2, 3, 5}, numbers{1, -1}, nil}, Effect{0, 0, list{0}, list{1, 2, 3, 5}})
		wantNothing(t, one, Situation{list{0}, numbers{3, -5}, nil}, "done", 0)
		wantNothing(t, two, Situation{list{0}, numbers{0, -5}, nil}, "done", 0)
		wantNothing(t, table.Table{}, Situation{list{0}, numbers{0, -5}, nil}, "done", 0)
	}
}

// R4: lists of no elements are alike, nil or empty: a guard of no instructions is none.
func TestNoElements(t *testing.T) {
	x := tableOf(t, "chart c 1 { state A {"+step+"on e go z } state z { end } }")
	bare := x
	bare.Vars, bare.Rows = []api.Var{}, slices.Clone(x.Rows)
	bare.Rows[0].Guard, bare.Rows[0].Sets = []table.Instr{}, []table.Assign{}
	for _, x := range []table.Table{x, bare} {
		if s := start(x); !sameSituation(s, Situation{Active: list{0}}) {
			t.Error(s)
		}
		for _, s := range []Situation{{list{0}, nil, nil}, {list{0}, numbers{}, list{}}, {list{0}, make(numbers, 0, 9), make(list, 0, 9)}} {
			wantTake(t, x, s, "e", 0, Situation{list{1}, nil, nil}, Effect{0, 0, list{0}, list{1}})
		}
		x.Rows = nil
		wantNothing(t, x, Situation{Active: list{0}}, "e", 0)
		x.Rows = []table.Row{}
		wantNothing(t, x, Situation{Active: list{0}}, "e", 0)
	}
	for _, code := range [][]table.Instr{nil, {}, make([]table.Instr, 0, 9)} {
		for _, vars := range []numbers{nil, {}, {1}} {
			if n, no := Run(code, vars); n != 0 || no != api.ErrForm {
				t.Error(n, no)
			}
		}
	}
	for _, none := range []numbers{nil, {}, make(numbers, 0, 9)} {
		wantRun(t, "push 3", none, 3)
		wantNoValue(t, "load 0", none, api.ErrForm)
	}
}

// roomy is a copy of a list with spare room, in which something stands.
func roomy[T any](from []T, spare T) []T {
	room := slices.Clone(from)
	for range 50 {
		room = append(room, spare)
	}
	return room[:len(from)]
}

// roomyTable is a copy of x, all lists with spare room.
func roomyTable(x table.Table) table.Table {
	spare := table.Instr{Op: "what", N: 9}
	x.Nodes, x.Vars = roomy(x.Nodes, tree.Node{Name: "spare"}), roomy(x.Vars, api.Var{Name: "spare", N: 9})
	x.Steps = roomy(x.Steps, table.Step{Do: "spare"})
	x.Rows = roomy(x.Rows, table.Row{Event: "e"})
	for i, r := range x.Rows {
		x.Rows[i].Guard = roomy(r.Guard, spare)
		x.Rows[i].Sets = roomy(r.Sets, table.Assign{Var: 9})
		for k, s := range x.Rows[i].Sets {
			x.Rows[i].Sets[k].Code = roomy(s.Code, spare)
		}
	}
	return x
}

// whole is all of x as a text, the spare room too.
func whole(x table.Table) string {
	all := fmt.Sprint(x.Nodes[:cap(x.Nodes)], x.Vars[:cap(x.Vars)], x.Steps[:cap(x.Steps)])
	for _, r := range x.Rows[:cap(x.Rows)] {
		all += fmt.Sprint(r, r.Guard[:cap(r.Guard)])
		for _, s := range r.Sets[:cap(r.Sets)] {
			all += fmt.Sprint(s, s.Code[:cap(s.Code)])
		}
	}
	return all
}

// R3: what is handed in is left as it is, its spare room too, and the spare room counts for nothing.
func TestArgumentsAreLeft(t *testing.T) {
	d := dice(3)
	for range 60 {
		c := d.chart(t, 8)
		plain := made(t, c)
		x := roomyTable(plain)
		before := whole(x)
		s := start(plain)
		if !sameSituation(s, start(x)) {
			t.Error("spare room counts", plain)
		}
		for range 20 {
			s.Busy = d.someBusy(c, s.Active)
			handed := Situation{roomy(s.Active, 1), roomy(s.Vars, 1), roomy(s.Busy, 1)}
			active, vars, busy := slices.Clone(handed.Active[:cap(handed.Active)]), slices.Clone(handed.Vars[:cap(handed.Vars)]), slices.Clone(handed.Busy[:cap(handed.Busy)])
			event, done := []string{"done", "e", "f"}[d.upTo(3)], s.Active[d.upTo(len(s.Active))]
			n, e, ok := take(x, handed, event, done)
			if next, effect, same := take(plain, s, event, done); same != ok || !sameSituation(next, n) || !sameEffect(effect, e) {
				t.Error("spare room counts", s, event, done)
			}
			if !slices.Equal(active, handed.Active[:cap(handed.Active)]) || !slices.Equal(vars, handed.Vars[:cap(handed.Vars)]) || !slices.Equal(busy, handed.Busy[:cap(handed.Busy)]) {
				t.Error("a situation is changed", s, event, done)
			}
			if ok {
				s = n
			}
		}
		if whole(x) != before {
			t.Error("a table is changed", plain)
		}
	}
}

// R3: Run leaves its code and its variables as they are, their spare room too, which counts for nothing.
func TestCodeIsLeft(t *testing.T) {
	for _, text := range []string{"", "push 2, push 3, -", "load 0, neg", "load 1", "load 0, load 0, load 0", "push 1, or 1", "push 0, and 2, push 7, bool", "what"} {
		code, vars := roomy(instrs(text), table.Instr{Op: "push", N: 1}), roomy(numbers{4}, 9)
		codeBefore, varsBefore := slices.Clone(code[:cap(code)]), slices.Clone(vars[:cap(vars)])
		n, no := Run(code, vars)
		if want, e := Run(instrs(text), numbers{4}); n != want || no != e {
			t.Error("spare room counts", text, n, no)
		}
		if !slices.Equal(codeBefore, code[:cap(code)]) || !slices.Equal(varsBefore, vars[:cap(vars)]) {
			t.Error("an argument is changed", text)
		}
	}
}

// wantOwnMemory fails if one of the lists, its spare room too, shares memory with another one.
func wantOwnMemory[T int | int64](t *testing.T, lists ...[]T) {
	t.Helper()
	for i, a := range lists {
		a = a[:cap(a)]
		for k := range a {
			a[k] = T(-100 - i)
		}
	}
	for i, a := range lists {
		for _, x := range a[:cap(a)] {
			if x != T(-100-i) {
				t.Error("shared memory:", i)
			}
		}
	}
}

// R3: what is answered is new memory, and no two lists of one answer share any.
func TestAnswersAreNew(t *testing.T) {
	pays, busies := tableOf(t, pay), tableOf(t, busyChart)
	for _, k := range []struct {
		x     table.Table
		s     Situation
		event string
		done  int
	}{
		{pays, Situation{list{0}, numbers{0, 0}, nil}, "done", 0},
		{pays, Situation{list{0}, numbers{0, 0}, nil}, "stop", 0},
		{pays, Situation{list{1, 2, 3, 5}, numbers{0, 0}, list{5}}, "done", 3},
		{busies, Situation{list{0, 1, 2, 3, 6, 7}, nil, list{7}}, "far", 0},
		{busies, Situation{list{0, 1, 2, 3, 6, 7}, nil, list{3}}, "done", 7},
	} {
		s := Situation{roomy(k.s.Active, 1), roomy(k.s.Vars, 1), roomy(k.s.Busy, 1)}
		n, e, ok := take(k.x, s, k.event, k.done)
		again, effect, _ := take(k.x, s, k.event, k.done)
		one, two := start(k.x), start(k.x)
		if !ok {
			t.Error(k)
		}
		wantOwnMemory(t, s.Active, s.Busy, n.Active, n.Busy, e.Left, e.Entered, again.Active, again.Busy, effect.Left, effect.Entered, one.Active, one.Busy, two.Active, two.Busy)
		wantOwnMemory(t, s.Vars, n.Vars, again.Vars, one.Vars, two.Vars)
	}
}
