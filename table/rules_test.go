package table

import (
	"fmt"
	"math"
	"slices"
	"strings"
	"testing"

	"tumbrel/api"
	"tumbrel/chart"
	"tumbrel/check"
	"tumbrel/expr"
	"tumbrel/tree"
)

// dice are numbers that aren't alike, the same ones each time.
type dice uint32

func (d *dice) upTo(n int) int {
	*d = *d*1664525 + 1013904223
	return int(*d>>8) % n
}

// name is a name of its own for each number.
func name(kind string, i int) string {
	return kind + string(rune('a'+i/26)) + string(rune('a'+i%26))
}

// expression is a small one, of some of the variables, which may well be out of range.
func (d *dice) expression(vars []chart.Var, room int) expr.Expr {
	kind := d.upTo(5)
	if room == 0 {
		kind = d.upTo(2)
	}
	switch kind {
	case 0:
		return expr.Lit{N: []int64{0, 1, 2, 3, api.MaxInt}[d.upTo(5)]}
	case 1:
		if len(vars) == 0 {
			return expr.Lit{N: 1}
		}
		return expr.Ref{Name: vars[d.upTo(len(vars))].Name}
	case 2:
		return expr.Not{X: d.expression(vars, room-1)}
	case 3:
		return expr.Neg{X: d.expression(vars, room-1)}
	}
	op := []string{"+", "-", "*", "<", "<=", "==", "!=", "&&", "||"}[d.upTo(9)]
	return expr.Bin{Op: op, L: d.expression(vars, room-1), R: d.expression(vars, room-1)}
}

// number is one that a variable may have, often near an edge.
func (d *dice) number() int64 {
	if d.upTo(3) == 0 {
		return []int64{api.MaxInt, -api.MaxInt, api.MaxInt - 1, 1 - api.MaxInt}[d.upTo(4)]
	}
	return int64(d.upTo(7) - 3)
}

// states is some states without ons that lie in one another, at most room deep, fewer than are left; a state with all lies in none with all.
func (d *dice) states(left *int, next *int, room int, all bool) []chart.State {
	var l []chart.State
	for n := 1 + d.upTo(4); n > 0 && *left > 0; n-- {
		s := chart.State{Name: name("s", *next)}
		*left--
		*next++
		if room > 1 && d.upTo(2) == 0 {
			hold := !all && d.upTo(2) == 0
			s.Inner = d.states(left, next, room-1, all || hold)
			s.All = hold && len(s.Inner) > 1
		}
		switch {
		case len(s.Inner) > 0:
		case d.upTo(4) == 0:
			s.End = true
		default:
			s.Do, s.Undo, s.Where, s.Retries = "x", "y", d.upTo(4), d.upTo(6)
		}
		l = append(l, s)
	}
	return l
}

// giveOns gives states ons that neither leap nor, of done, go back.
func (d *dice) giveOns(c *chart.Chart, l []chart.State, nodes []tree.Node) {
	for k := range l {
		s := &l[k]
		i := tree.Find(nodes, s.Name)
		for n := d.upTo(5); n > 0 && !s.End; n-- {
			event := []string{"done", "e", "f"}[d.upTo(3)]
			to := d.upTo(len(nodes))
			scope := tree.Meet(nodes, i, to)
			if scope >= 0 && nodes[scope].All || event == "done" && (s.Do == "" || to <= i) {
				continue
			}
			o := chart.On{Event: event, Target: nodes[to].Name}
			if d.upTo(2) == 0 {
				o.Guard = d.expression(c.Vars, 3)
			}
			for m := d.upTo(4); m > 0 && len(c.Vars) > 0; m-- {
				o.Sets = append(o.Sets, chart.Set{Name: c.Vars[d.upTo(len(c.Vars))].Name, To: d.expression(c.Vars, 3)})
			}
			s.Ons = append(s.Ons, o)
		}
		d.giveOns(c, s.Inner, nodes)
	}
}

// chart is a right one.
func (d *dice) chart(t *testing.T, most int) chart.Chart {
	t.Helper()
	c := chart.Chart{Name: "c", Version: 1}
	for k := range d.upTo(4) {
		c.Vars = append(c.Vars, chart.Var{Name: name("v", k), N: d.number()})
	}
	left, next := 1+d.upTo(most), 0
	c.States = d.states(&left, &next, api.MaxDeep, false)
	d.giveOns(&c, c.States, tree.Nodes(c))
	if at, e := check.Check(c); e != api.OK {
		t.Fatal(at, e, c)
	}
	return c
}

// placed is a state, and which ones it lies in, the outermost first: what the chapter asks is asked of that, without layer 9.
type placed struct {
	state chart.State
	in    []int
}

// flat is all states in the order of the text.
func flat(l []chart.State, in []int, so []placed) []placed {
	for _, s := range l {
		number := len(so)
		so = append(so, placed{s, in})
		so = flat(s.Inner, append(slices.Clone(in), number), so)
	}
	return so
}

// byName is the number of the state of that name.
func byName(all []placed, name string) int {
	return slices.IndexFunc(all, func(p placed) bool { return p.state.Name == name })
}

// told is an expression's code by the chapter's words, as a text; the length of what follows is told by how many instructions the text has.
func told(e expr.Expr, vars []api.Var) string {
	switch x := e.(type) {
	case expr.Lit:
		return fmt.Sprint("push ", x.N)
	case expr.Ref:
		for i, v := range vars {
			if v.Name == x.Name {
				return fmt.Sprint("load ", i)
			}
		}
	case expr.Not:
		return told(x.X, vars) + ", not"
	case expr.Neg:
		return told(x.X, vars) + ", neg"
	case expr.Bin:
		l, r := told(x.L, vars), told(x.R, vars)
		jump := map[string]string{"&&": "and", "||": "or"}[x.Op]
		if jump == "" {
			return l + ", " + r + ", " + x.Op
		}
		r += ", bool"
		return fmt.Sprintf("%s, %s %d, %s", l, jump, 1+strings.Count(r, ", "), r)
	}
	panic("not formed")
}

// value is what code leaves on the stack, by the chapter's words; in range is asked of nothing.
func value(code []Instr, vars []api.Var) int64 {
	var stack []int64
	truth := func(is bool) int64 {
		if is {
			return 1
		}
		return 0
	}
	for at := 0; at < len(code); at++ {
		i, last := code[at], len(stack)-1
		switch i.Op {
		case "push":
			stack = append(stack, i.N)
			continue
		case "load":
			stack = append(stack, vars[i.N].N)
			continue
		case "not":
			stack[last] = truth(stack[last] == 0)
			continue
		case "neg":
			stack[last] = -stack[last]
			continue
		case "bool":
			stack[last] = truth(stack[last] != 0)
			continue
		case "and", "or":
			if is := stack[last] != 0; is == (i.Op == "or") {
				stack[last] = truth(is)
				at += int(i.N)
			} else {
				stack = stack[:last]
			}
			continue
		}
		l, r := stack[last-1], stack[last]
		stack = stack[:last]
		stack[last-1] = map[string]int64{"+": l + r, "-": l - r, "*": l * r, "<": truth(l < r), "<=": truth(l <= r), "==": truth(l == r), "!=": truth(l != r)}[i.Op]
	}
	if len(stack) != 1 {
		panic(fmt.Sprint(stack))
	}
	return stack[0]
}

// P12.1: the code of many expressions is as it is told, and works out to their values.
func TestCodeOfMany(t *testing.T) {
	d := dice(12)
	valued, jumps := 0, 0
	for range 20000 {
		vars := make([]api.Var, 1+d.upTo(4))
		refs := make([]chart.Var, len(vars))
		for k := range vars {
			// Of some there are two of one name.
			vars[k] = api.Var{Name: name("v", d.upTo(4)), N: d.number()}
			refs[k].Name = vars[k].Name
		}
		e := d.expression(refs, 5)
		if !expr.Formed(e) {
			wantNoCode(t, e, vars, api.ErrArg)
			continue
		}
		wantCode(t, e, vars, told(e, vars))
		code, _ := Code(e, vars)
		jumps += strings.Count(written(code), "and") + strings.Count(written(code), "or ")
		if n, no := expr.Eval(e, vars); no == api.OK {
			valued++
			if got := value(code, vars); got != n {
				t.Error(e, vars, written(code), got, n)
			}
		}
		if refs := expr.Refs(e); len(refs) > 0 {
			gone := refs[d.upTo(len(refs))]
			without := slices.DeleteFunc(slices.Clone(vars), func(v api.Var) bool { return v.Name == gone })
			wantNoCode(t, e, without, api.ErrNone)
		}
	}
	if valued < 10000 || jumps < 2500 {
		t.Error(valued, jumps)
	}
}

// toldRow is a state's on as a row.
func toldRow(t *testing.T, all []placed, vars []api.Var, i, k int) Row {
	t.Helper()
	o := all[i].state.Ons[k]
	to := byName(all, o.Target)
	scope := -1
	for m := 0; m < len(all[i].in) && m < len(all[to].in) && all[i].in[m] == all[to].in[m]; m++ {
		scope = all[i].in[m]
	}
	r := Row{State: i, On: k, Event: o.Event, Target: to, Scope: scope}
	if o.Guard != nil {
		r.Guard = instrs(t, told(o.Guard, vars))
	}
	for _, s := range o.Sets {
		at := slices.IndexFunc(vars, func(v api.Var) bool { return v.Name == s.Name })
		r.Sets = append(r.Sets, Assign{at, instrs(t, told(s.To, vars))})
	}
	return r
}

// toldTable is a right chart's table by the chapter's words.
func toldTable(t *testing.T, c chart.Chart) Table {
	t.Helper()
	all := flat(c.States, nil, nil)
	x := Table{Name: c.Name, Version: c.Version, Nodes: tree.Nodes(c)}
	for _, v := range c.Vars {
		x.Vars = append(x.Vars, api.Var{Name: v.Name, N: v.N})
	}
	for _, p := range all {
		x.Steps = append(x.Steps, Step{p.state.Do, p.state.Undo, p.state.Where, p.state.Retries})
	}
	for deep := api.MaxDeep; deep >= 0; deep-- {
		for i, p := range all {
			for k := range p.state.Ons {
				if len(p.in) == deep {
					x.Rows = append(x.Rows, toldRow(t, all, x.Vars, i, k))
				}
			}
		}
	}
	return x
}

// P12.1: the tables of many charts are as they are told, and of two those alike are the same.
func TestTablesOfMany(t *testing.T) {
	d := dice(21)
	rows, deep := 0, 0
	var last Table
	for range 2000 {
		c := d.chart(t, 25)
		x := toldTable(t, c)
		wantTable(t, c, x)
		if Same(x, last) != (writtenWhole(x) == writtenWhole(last)) {
			t.Error(x, last)
		}
		last = x
		rows += len(x.Rows)
		for _, r := range x.Rows {
			if r.Scope > 0 {
				deep++
			}
		}
	}
	if rows < 15000 || deep < 1000 {
		t.Error(rows, deep)
	}
}

// writtenWhole is all of a table as a text.
func writtenWhole(x Table) string { return fmt.Sprint(nilLists(x)) }

// R1, R5: charts that lie in themselves, that share what lies in them, that have other types of expressions, and very long ones.
func TestAnyCharts(t *testing.T) {
	good := chart.State{Name: "A", Do: "x", Undo: "y"}
	one := func(o chart.On) chart.Chart {
		s := good
		s.Ons = []chart.On{o}
		return chart.Chart{Name: "c", States: []chart.State{s, {Name: "z", End: true}}}
	}
	var nothing *expr.Lit
	itself := []chart.State{{Name: "A"}}
	itself[0].Inner = itself
	shared := []chart.State{{Name: "A", End: true}}
	for range 5 {
		var wider []chart.State
		for range 5000 {
			wider = append(wider, chart.State{Name: "A", Inner: shared})
		}
		shared = wider
	}
	doubled := expr.Expr(expr.Ref{Name: "n"})
	for range 200 {
		doubled = expr.Bin{Op: "+", L: doubled, R: doubled}
	}
	for _, c := range []chart.Chart{
		{},
		{Name: "c", States: itself},
		{Name: "c", States: shared},
		{Name: "c", States: make([]chart.State, 1<<20)},
		{Name: "c", Vars: make([]chart.Var, 1<<20), States: []chart.State{good}},
		one(chart.On{Event: "e", Target: "z", Guard: loud{}}),
		one(chart.On{Event: "e", Target: "z", Guard: nothing}),
		one(chart.On{Event: "e", Target: "z", Guard: doubled}),
		one(chart.On{Event: "e", Target: "z", Guard: expr.Not{}}),
		one(chart.On{Event: "e", Target: "z", Guard: &expr.Lit{N: 1}}),
		one(chart.On{Event: "e", Target: "z", Sets: make([]chart.Set, 1<<20)}),
		one(chart.On{Event: "e", Target: "z", Sets: []chart.Set{{Name: "n", To: loud{}}}}),
		one(chart.On{Event: "\xff", Target: "z"}),
	} {
		wantNoTable(t, c)
	}
	c := one(chart.On{Event: "e", Target: "z"})
	wantTable(t, c, toldTable(t, c))
}

// R1: any tables, very long ones, and such ones as no chart has.
func TestAnyTables(t *testing.T) {
	rows := make([]Row, 1<<16)
	for i := range rows {
		rows[i] = Row{State: math.MinInt, On: math.MaxInt, Event: "\xff", Guard: make([]Instr, 3), Sets: make([]Assign, 2)}
	}
	many := []Table{
		{},
		{Rows: rows},
		{Rows: rows[:len(rows)-1]},
		{Nodes: make([]tree.Node, 1<<18)},
		{Steps: make([]Step, 1<<18)},
		{Vars: make([]api.Var, 1<<18)},
		{Name: strings.Repeat("a", 1<<20), Version: math.MinInt},
		{Rows: []Row{{Guard: make([]Instr, 1<<18)}}},
		{Rows: []Row{{Sets: make([]Assign, 1<<18)}}},
		{Rows: []Row{{Sets: []Assign{{Code: make([]Instr, 1<<18)}}}}},
	}
	for i, a := range many {
		for k, b := range many {
			if Same(a, b) != (i == k) {
				t.Error(i, k)
			}
		}
	}
}

// R2, R5: what is asked once more is answered alike, whatever was asked between.
func TestNothingIsKept(t *testing.T) {
	c, small := compile(t, pay), compile(t, inChart("state A {"+step+"on e go A }"))
	for range 3 {
		wantTable(t, c, payTable(t))
		wantNoTable(t, chart.Chart{})
		wantTable(t, small, toldTable(t, small))
		wantCode(t, parsed(t, "a && b"), named("a", "b"), "load 0, and 2, load 1, bool")
		wantNoCode(t, parsed(t, "a && b"), named("a"), api.ErrNone)
		wantCode(t, parsed(t, "a && b"), named("b", "a"), "load 1, and 2, load 0, bool")
		wantNoCode(t, nil, named("a"), api.ErrArg)
	}
}

// R2: places count for nothing.
func TestPlacesCountForNothing(t *testing.T) {
	d := dice(2)
	for range 50 {
		c := d.chart(t, 10)
		x := toldTable(t, c)
		for i := range c.Vars {
			c.Vars[i].At = api.Pos{Line: d.upTo(9), Col: -d.upTo(9)}
		}
		for i := range c.States {
			c.States[i].At.Line = d.upTo(9)
			for k := range c.States[i].Ons {
				c.States[i].Ons[k].At.Col = d.upTo(9)
			}
		}
		wantTable(t, c, x)
	}
}

// R4: lists of no elements are alike, nil or empty.
func TestNoElements(t *testing.T) {
	c := compile(t, "chart c 1 { state A {"+step+"on e go z } state z { end } }")
	bare := chart.Strip(c)
	bare.Vars, bare.States[0].Inner, bare.States[0].Ons[0].Sets = []chart.Var{}, []chart.State{}, make([]chart.Set, 0, 9)
	bare.States[1].Ons = []chart.On{}
	wantTable(t, bare, toldTable(t, c))
	for _, empty := range []Table{
		{},
		{Nodes: []tree.Node{}, Vars: []api.Var{}, Steps: []Step{}, Rows: []Row{}},
		{Nodes: make([]tree.Node, 0, 9), Vars: make([]api.Var, 0, 9), Steps: make([]Step, 0, 9), Rows: make([]Row, 0, 9)},
	} {
		if !Same(empty, Table{}) || !Same(Table{}, empty) {
			t.Error(empty)
		}
	}
	one, two := Table{Rows: []Row{{}, {Sets: []Assign{{}}}}}, Table{Rows: []Row{{Guard: []Instr{}, Sets: []Assign{}}, {Guard: make([]Instr, 0, 9), Sets: []Assign{{Code: []Instr{}}}}}}
	if !Same(one, two) || !Same(two, one) {
		t.Error("nil and empty")
	}
}

// roomy is a copy of a list with spare room, in which something stands.
func roomy[T any](from []T, spare T) []T {
	room := slices.Clone(from)
	for range 50 {
		room = append(room, spare)
	}
	return room[:len(from)]
}

// roomyStates is a copy of states, all lists with spare room.
func roomyStates(from []chart.State) []chart.State {
	l := roomy(from, chart.State{Name: "spare", End: true})
	for i := range l {
		l[i].Inner = roomyStates(l[i].Inner)
		l[i].Ons = roomy(l[i].Ons, chart.On{Event: "e", Target: "spare"})
		for k := range l[i].Ons {
			l[i].Ons[k].Sets = roomy(l[i].Ons[k].Sets, chart.Set{Name: "spare", To: expr.Lit{N: 1}})
		}
	}
	return l
}

// roomyChart is a copy of c, all lists with spare room.
func roomyChart(c chart.Chart) chart.Chart {
	c.Vars = roomy(c.Vars, chart.Var{Name: "spare", N: 1})
	c.States = roomyStates(c.States)
	return c
}

// whole is c with all spare room as members, so that two can be compared.
func whole(c chart.Chart) chart.Chart {
	var open func(l []chart.State) []chart.State
	open = func(l []chart.State) []chart.State {
		l = slices.Clone(l[:cap(l)])
		for i := range l {
			l[i].Inner, l[i].Ons = open(l[i].Inner), slices.Clone(l[i].Ons[:cap(l[i].Ons)])
			for k, o := range l[i].Ons {
				l[i].Ons[k].Sets = slices.Clone(o.Sets[:cap(o.Sets)])
			}
		}
		return l
	}
	c.Vars, c.States = slices.Clone(c.Vars[:cap(c.Vars)]), open(c.States)
	return c
}

// R3: what is handed in is left as it is, its spare room too, and the spare room counts for nothing.
func TestArgumentsAreLeft(t *testing.T) {
	d := dice(3)
	for range 100 {
		plain := d.chart(t, 8)
		c := roomyChart(plain)
		before := whole(c)
		x := toldTable(t, plain)
		wantTable(t, c, x)
		if !chart.Same(whole(c), before) {
			t.Error("a chart is changed", plain)
		}
		vars := roomy(x.Vars, api.Var{Name: "spare", N: 1})
		held := slices.Clone(vars[:cap(vars)])
		wantNoCode(t, expr.Ref{Name: "spare"}, vars, api.ErrNone)
		if e := d.expression(c.Vars, 3); expr.Formed(e) {
			wantCode(t, e, vars, told(e, vars))
		}
		if !slices.Equal(held, vars[:cap(vars)]) {
			t.Error("variables are changed", vars)
		}
	}
}

// R3: Same leaves its tables as they are, and their spare room counts for nothing.
func TestTablesAreLeft(t *testing.T) {
	x := payTable(t)
	x.Rows = roomy(x.Rows, Row{On: 9})
	x.Nodes = roomy(x.Nodes, tree.Node{Name: "spare"})
	x.Vars, x.Steps = roomy(x.Vars, api.Var{N: 9}), roomy(x.Steps, Step{Do: "spare"})
	x.Rows[2].Guard = roomy(x.Rows[2].Guard, Instr{N: 9})
	x.Rows[2].Sets = roomy(x.Rows[2].Sets, Assign{Var: 9})
	before := fmt.Sprint(x, x.Rows[:cap(x.Rows)], x.Nodes[:cap(x.Nodes)], x.Vars[:cap(x.Vars)], x.Steps[:cap(x.Steps)], x.Rows[2].Guard[:50], x.Rows[2].Sets[:50])
	if !Same(x, payTable(t)) || !Same(payTable(t), x) || Same(x, Table{}) {
		t.Error("spare room counts")
	}
	after := fmt.Sprint(x, x.Rows[:cap(x.Rows)], x.Nodes[:cap(x.Nodes)], x.Vars[:cap(x.Vars)], x.Steps[:cap(x.Steps)], x.Rows[2].Guard[:50], x.Rows[2].Sets[:50])
	if before != after {
		t.Error("a table is changed")
	}
}

// wantOwnMemory fails if one of the lists, its spare room too, shares memory with another one. No two marks are alike.
func wantOwnMemory[T comparable](t *testing.T, mark func(i int) T, lists ...[]T) {
	t.Helper()
	for i, a := range lists {
		a = a[:cap(a)]
		for k := range a {
			a[k] = mark(i)
		}
	}
	for i, a := range lists {
		for _, x := range a[:cap(a)] {
			if x != mark(i) {
				t.Error("shared memory:", i)
			}
		}
	}
}

// R3: what is answered is new memory, and no two lists of one answer share any.
func TestAnswersAreNew(t *testing.T) {
	d := dice(33)
	for range 100 {
		c := d.chart(t, 10)
		vars := toldTable(t, c).Vars
		e := d.expression(c.Vars, 3)
		var codes [][]Instr
		var nodes [][]tree.Node
		var steps [][]Step
		allVars := [][]api.Var{vars}
		for range 2 {
			code, _ := Code(e, vars)
			x, _ := Make(c)
			codes = append(codes, code)
			nodes, steps, allVars = append(nodes, x.Nodes), append(steps, x.Steps), append(allVars, x.Vars)
			for _, r := range x.Rows {
				codes = append(codes, r.Guard)
				for _, s := range r.Sets {
					codes = append(codes, s.Code)
				}
			}
		}
		wantOwnMemory(t, func(i int) Instr { return Instr{N: int64(-1 - i)} }, codes...)
		wantOwnMemory(t, func(i int) tree.Node { return tree.Node{Depth: -1 - i} }, nodes...)
		wantOwnMemory(t, func(i int) Step { return Step{Where: -1 - i} }, steps...)
		wantOwnMemory(t, func(i int) api.Var { return api.Var{N: int64(-1 - i)} }, allVars...)
	}
}

// R3: rows and their sets are new memory too: what is done to one answer is not to be seen in another one.
func TestRowsAreNew(t *testing.T) {
	c := compile(t, pay)
	x, _ := Make(c)
	x.Rows = x.Rows[:cap(x.Rows)]
	for i := range x.Rows {
		sets := x.Rows[i].Sets
		sets = sets[:cap(sets)]
		for k := range sets {
			sets[k] = Assign{Var: -7}
		}
		x.Rows[i] = Row{On: -7, Sets: sets}
	}
	for i, r := range x.Rows {
		for _, s := range r.Sets {
			if s.Var != -7 || i != 2 {
				t.Error(i, r)
			}
		}
	}
	wantTable(t, c, payTable(t))
}

// R3: Code keeps nothing of its variables, and Make nothing of its chart.
func TestNothingOfArgumentsIsKept(t *testing.T) {
	c := chart.Strip(compile(t, pay))
	x, _ := Make(c)
	code, _ := Code(c.States[0].Ons[0].Guard, x.Vars)
	c.Vars[0], c.Vars[1] = chart.Var{}, chart.Var{}
	c.States[0].Ons[0] = chart.On{}
	for i := range c.States {
		c.States[i] = chart.State{}
	}
	if !Same(x, payTable(t)) || written(code) != "load 0, push 3, <" {
		t.Error(x, code)
	}
}
