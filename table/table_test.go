package table

import (
	"fmt"
	"math"
	"reflect"
	"slices"
	"strings"
	"testing"

	"tumbrel/api"
	"tumbrel/chart"
	"tumbrel/check"
	"tumbrel/expr"
	"tumbrel/guard"
	"tumbrel/tree"
)

// pay has the states a 0, b 1 with all, c 2 in it, d 3 and e 4 in that, f 5 in b, z 6.
const pay = `chart pay 1 {
	var n = 0
	var k = -5
	state a {
		do take undo give at 0 retries 2
		on done if n < 3 go b set n = n + 1 set k = -n
		on stop go z
	}
	state b {
		all
		state c {
			state d {
				do x undo y at 1 retries 0
				on done go e
			}
			state e {
				end
			}
		}
		state f {
			do p undo q at 3 retries 1
			on done go z
		}
	}
	state z {
		end
	}
}
`

// step is the words of a state's step, for states that need one.
const step = " do x undo y at 0 retries 0 "

// inChart is a chart with these variables and states, and behind them two ends, y and z.
func inChart(s string) string {
	return "chart c 1 { " + s + " state y { end } state z { end } }"
}

func compile(t *testing.T, s string) chart.Chart {
	t.Helper()
	c, at, e := check.Compile(s)
	if e != api.OK {
		t.Fatal(at, e, s)
	}
	return c
}

func parsed(t *testing.T, s string) expr.Expr {
	t.Helper()
	x, e := guard.Parse(s)
	if e != api.OK {
		t.Fatal(s, e)
	}
	return x
}

// named is variables of these names.
func named(names ...string) []api.Var {
	var vars []api.Var
	for i, name := range names {
		vars = append(vars, api.Var{Name: name, N: int64(i) * 7})
	}
	return vars
}

// written is code as the chapter's examples write it, but that each N that isn't 0 stands there, whatever the operation.
func written(code []Instr) string {
	var all []string
	for _, i := range code {
		s := i.Op
		if i.N != 0 || i.Op == "push" || i.Op == "load" || i.Op == "and" || i.Op == "or" {
			s += fmt.Sprint(" ", i.N)
		}
		all = append(all, s)
	}
	return strings.Join(all, ", ")
}

func wantCode(t *testing.T, e expr.Expr, vars []api.Var, want string) {
	t.Helper()
	if code, no := Code(e, vars); no != api.OK || written(code) != want {
		t.Errorf("Code(%v, %v) = %s %v, want %s", e, vars, written(code), no, want)
	}
}

func wantNoCode(t *testing.T, e expr.Expr, vars []api.Var, want api.Errno) {
	t.Helper()
	if code, no := Code(e, vars); no != want || len(code) > 0 {
		t.Errorf("Code(%v) = %s %v, want %v", e, written(code), no, want)
	}
}

// P12.1: the chapter's examples.
func TestExamples(t *testing.T) {
	wantCode(t, parsed(t, "n < 3"), named("n"), "load 0, push 3, <")
	wantCode(t, parsed(t, "a && b"), named("a", "b"), "load 0, and 2, load 1, bool")
}

// P12.1: each kind of expression, and how they lie in one another.
func TestCode(t *testing.T) {
	vars := named("a", "b", "c")
	for s, want := range map[string]string{
		"0":          "push 0",
		"7":          "push 7",
		"1000000000": "push 1000000000",
		"a":          "load 0",
		"c":          "load 2",
		"!b":         "load 1, not",
		"-b":         "load 1, neg",
		"-5":         "push 5, neg",
		"!!a":        "load 0, not, not",
		"-!-a":       "load 0, neg, not, neg",
		"a + b":      "load 0, load 1, +",
		"b - a":      "load 1, load 0, -",
		"a * 2":      "load 0, push 2, *",
		"a < b":      "load 0, load 1, <",
		"a <= b":     "load 0, load 1, <=",
		"a == b":     "load 0, load 1, ==",
		"a != b":     "load 0, load 1, !=",
		"a || b":     "load 0, or 2, load 1, bool",
		"1 || 0":     "push 1, or 2, push 0, bool",
		// The left side first, whichever is the longer one.
		"a - b - c":         "load 0, load 1, -, load 2, -",
		"a - (b - c)":       "load 0, load 1, load 2, -, -",
		"a * b + c":         "load 0, load 1, *, load 2, +",
		"a + b * c":         "load 0, load 1, load 2, *, +",
		"(a + b) * (a - c)": "load 0, load 1, +, load 0, load 2, -, *",
		"!(a < -b)":         "load 0, load 1, neg, <, not",
		// What is passed over is the right side and bool.
		"a && b && c":        "load 0, and 2, load 1, bool, and 2, load 2, bool",
		"a && (b && c)":      "load 0, and 5, load 1, and 2, load 2, bool, bool",
		"a || b || c":        "load 0, or 2, load 1, bool, or 2, load 2, bool",
		"a || (b || c)":      "load 0, or 5, load 1, or 2, load 2, bool, bool",
		"a && b || c":        "load 0, and 2, load 1, bool, or 2, load 2, bool",
		"a || b && c":        "load 0, or 5, load 1, and 2, load 2, bool, bool",
		"(a || b) && c":      "load 0, or 2, load 1, bool, and 2, load 2, bool",
		"a < 1 && b < 2":     "load 0, push 1, <, and 4, load 1, push 2, <, bool",
		"!(a && b) + -c":     "load 0, and 2, load 1, bool, not, load 2, neg, +",
		"a && !b || -c == 9": "load 0, and 3, load 1, not, bool, or 5, load 2, neg, push 9, ==, bool",
	} {
		wantCode(t, parsed(t, s), vars, want)
	}
}

// P12.1: a variable's number is its place, whatever the names and numbers of the variables are; of two of one name it is the first one's.
func TestVariables(t *testing.T) {
	n := expr.Ref{Name: "n"}
	wantCode(t, n, named("n", "n"), "load 0")
	wantCode(t, n, named("m", "n", "n", "m"), "load 1")
	wantCode(t, n, named("", "\xff", "if", "N", "nn", "n ", "n"), "load 6")
	wantCode(t, n, []api.Var{{Name: "m", N: math.MaxInt64}, {Name: "n", N: math.MinInt64}}, "load 1")
	many := named(make([]string, 100000)...)
	many[99999].Name = "n"
	wantCode(t, expr.Bin{Op: "*", L: n, R: n}, many, "load 99999, load 99999, *")
	wantCode(t, expr.Lit{N: 4}, many, "push 4")
}

// P12.1: ErrNone, wherever the Ref lies, also where its value would never be asked.
func TestNoVariable(t *testing.T) {
	vars := named("a", "b")
	for _, s := range []string{"n", "!n", "-n", "n + a", "a + n", "a && n", "n && a", "0 && n", "1 || n", "a || (b && -!n)", "a + b * (a - n)", "A", "aa"} {
		wantNoCode(t, parsed(t, s), vars, api.ErrNone)
		wantNoCode(t, parsed(t, s), nil, api.ErrNone)
	}
	for _, vars := range [][]api.Var{nil, {}, named("A"), named("aa"), named(""), named("a ")} {
		wantNoCode(t, parsed(t, "a"), vars, api.ErrNone)
		wantCode(t, parsed(t, "3"), vars, "push 3")
	}
}

// loud is an expression of another type.
type loud struct{}

func (loud) Kind() int { panic("asked") }

// nested is an expression that lies that deep.
func nested(deep int) expr.Expr {
	e := expr.Expr(expr.Ref{Name: "a"})
	for range deep - 1 {
		e = expr.Neg{X: e}
	}
	return e
}

// wide is an expression of that many parts, which must be odd.
func wide(parts int) expr.Expr {
	if parts == 1 {
		return expr.Ref{Name: "a"}
	}
	left := (parts - 1) / 2
	if left%2 == 0 {
		left++
	}
	return expr.Bin{Op: "&&", L: wide(left), R: wide(parts - 1 - left)}
}

// P12.1: ErrArg of what isn't formed, also where a Ref's name is no variable's.
func TestNotFormed(t *testing.T) {
	var nothing *expr.Lit
	doubled := expr.Expr(expr.Ref{Name: "n"})
	for range 200 {
		doubled = expr.Bin{Op: "+", L: doubled, R: doubled}
	}
	n := expr.Ref{Name: "n"}
	for _, e := range []expr.Expr{
		nil, loud{}, nothing, &expr.Lit{N: 1}, doubled,
		expr.Lit{N: -1}, expr.Lit{N: api.MaxInt + 1}, expr.Lit{N: math.MinInt64},
		expr.Ref{}, expr.Ref{Name: "1"}, expr.Ref{Name: strings.Repeat("a", api.MaxName+1)},
		expr.Not{}, expr.Neg{}, expr.Not{X: loud{}}, expr.Neg{X: nothing},
		expr.Bin{Op: "+"}, expr.Bin{Op: "+", L: n}, expr.Bin{Op: "+", R: n},
		expr.Bin{Op: "", L: n, R: n}, expr.Bin{Op: ">", L: n, R: n}, expr.Bin{Op: "and", L: n, R: n}, expr.Bin{Op: "bool", L: n, R: n},
		expr.Bin{Op: "&&", L: expr.Lit{}, R: loud{}}, expr.Bin{Op: "||", L: n, R: expr.Lit{N: -1}},
		nested(api.MaxNest + 1), wide(api.MaxNodes + 1),
	} {
		for _, vars := range [][]api.Var{nil, named("n", "a", "")} {
			wantNoCode(t, e, vars, api.ErrArg)
		}
	}
	vars := named("a")
	wantCode(t, nested(api.MaxNest), vars, "load 0"+strings.Repeat(", neg", api.MaxNest-1))
	if code, no := Code(wide(api.MaxNodes-1), vars); no != api.OK || len(code) != 20+19*2 {
		t.Error(len(code), no)
	}
}

// instrs is code, as written writes it.
func instrs(t *testing.T, s string) []Instr {
	t.Helper()
	var code []Instr
	for _, one := range strings.Split(s, ", ") {
		var i Instr
		if _, e := fmt.Sscan(one, &i.Op, &i.N); e != nil {
			i = Instr{Op: one}
		}
		code = append(code, i)
	}
	return code
}

// nilLists is t with all lists of no elements nil, so that two can be compared deeply.
func nilLists(t Table) Table {
	t.Nodes, t.Vars, t.Steps, t.Rows = fresh(t.Nodes), fresh(t.Vars), fresh(t.Steps), fresh(t.Rows)
	for i := range t.Rows {
		t.Rows[i].Guard, t.Rows[i].Sets = fresh(t.Rows[i].Guard), fresh(t.Rows[i].Sets)
		for k := range t.Rows[i].Sets {
			t.Rows[i].Sets[k].Code = fresh(t.Rows[i].Sets[k].Code)
		}
	}
	return t
}

func fresh[T any](list []T) []T { return append([]T(nil), list...) }

func wantTable(t *testing.T, c chart.Chart, want Table) {
	t.Helper()
	got, no := Make(c)
	if no != api.OK || !reflect.DeepEqual(nilLists(got), nilLists(want)) {
		t.Errorf("Make(%v) = %v %v, want %v", c, got, no, want)
	}
	if !Same(got, want) || !Same(want, got) {
		t.Errorf("%v and %v aren't the same", got, want)
	}
}

func wantNoTable(t *testing.T, c chart.Chart) {
	t.Helper()
	if got, no := Make(c); no != api.ErrArg || !reflect.DeepEqual(nilLists(got), Table{}) {
		t.Errorf("Make = %v %v", got, no)
	}
}

// payTable is pay's table, written out.
func payTable(t *testing.T) Table {
	return Table{
		Name:    "pay",
		Version: 1,
		Nodes: []tree.Node{
			{Name: "a", Parent: -1, Depth: 0, Behind: 1, Leaf: true},
			{Name: "b", Parent: -1, Depth: 0, Behind: 6, All: true},
			{Name: "c", Parent: 1, Depth: 1, Behind: 5},
			{Name: "d", Parent: 2, Depth: 2, Behind: 4, Leaf: true},
			{Name: "e", Parent: 2, Depth: 2, Behind: 5, End: true, Leaf: true},
			{Name: "f", Parent: 1, Depth: 1, Behind: 6, Leaf: true},
			{Name: "z", Parent: -1, Depth: 0, Behind: 7, End: true, Leaf: true},
		},
		Vars:  []api.Var{{Name: "n", N: 0}, {Name: "k", N: -5}},
		Steps: []Step{{"take", "give", 0, 2}, {}, {}, {"x", "y", 1, 0}, {}, {"p", "q", 3, 1}, {}},
		Rows: []Row{
			{State: 3, Event: "done", Target: 4, Scope: 2},
			{State: 5, Event: "done", Target: 6, Scope: -1},
			{State: 0, Event: "done", Guard: instrs(t, "load 0, push 3, <"), Target: 1, Scope: -1, Sets: []Assign{{0, instrs(t, "load 0, push 1, +")}, {1, instrs(t, "load 0, neg")}}},
			{State: 0, On: 1, Event: "stop", Target: 6, Scope: -1},
		},
	}
}

// P12.1: Make, whole tables written out.
func TestMake(t *testing.T) {
	wantTable(t, compile(t, pay), payTable(t))
	wantTable(t, compile(t, "chart c 0 { state A { end } }"), Table{
		Name:  "c",
		Nodes: []tree.Node{{Name: "A", Parent: -1, Behind: 1, End: true, Leaf: true}},
		Steps: []Step{{}},
	})
	wantTable(t, compile(t, "chart d 1000000000 { var b = -1000000000 var a = 1000000000 state A { do go1 undo back at 3 retries 5 on e if a && b go A set b = !b set a = a set b = 0 set a = 7 } }"), Table{
		Name:    "d",
		Version: api.MaxInt,
		Nodes:   []tree.Node{{Name: "A", Parent: -1, Behind: 1, Leaf: true}},
		Vars:    []api.Var{{Name: "b", N: -api.MaxInt}, {Name: "a", N: api.MaxInt}},
		Steps:   []Step{{"go1", "back", 3, 5}},
		Rows: []Row{{State: 0, Event: "e", Guard: instrs(t, "load 1, and 2, load 0, bool"), Target: 0, Scope: -1, Sets: []Assign{
			{0, instrs(t, "load 0, not")}, {1, instrs(t, "load 1")}, {0, instrs(t, "push 0")}, {1, instrs(t, "push 7")},
		}}},
	})
}

// brief is each row's state, on, event, target and scope.
func brief(rows []Row) string {
	var all []string
	for _, r := range rows {
		all = append(all, fmt.Sprintf("%d %d %s %d %d", r.State, r.On, r.Event, r.Target, r.Scope))
	}
	return strings.Join(all, "; ")
}

// P12.1: rows stand by how deep their states lie, then by their numbers, then in the order of the ons; whatever the events are, and whether states are leaves.
func TestOrderOfRows(t *testing.T) {
	c := compile(t, `chart c 1 {
		state s0 { do x undo y at 0 retries 0 on e go s1 on done go s9 on e go s0 }
		state s1 {
			on e go s0
			on f go s4
			state s2 {
				on g go s3
				state s3 { do x undo y at 0 retries 0 on z go s4 on a go s3 }
			}
			state s4 { do x undo y at 0 retries 0 on done go s5 on a go s2 }
			state s5 {
				on f go s7
				state s6 {
					state s7 { do x undo y at 0 retries 0 on e go s8 on done go s8 on e go s3 }
					state s8 { end }
				}
			}
		}
		state s9 { do x undo y at 0 retries 0 on a go s8 }
	}`)
	x, no := Make(c)
	if no != api.OK {
		t.Fatal(no)
	}
	const want = "7 0 e 8 6; 7 1 done 8 6; 7 2 e 3 1; 3 0 z 4 1; 3 1 a 3 2; 2 0 g 3 1; 4 0 done 5 1; 4 1 a 2 1; 5 0 f 7 1; 0 0 e 1 -1; 0 1 done 9 -1; 0 2 e 0 -1; 1 0 e 0 -1; 1 1 f 4 -1; 9 0 a 8 -1"
	if brief(x.Rows) != want {
		t.Error(brief(x.Rows))
	}
}

// P12.1: what stands between a state's ons in the text counts for nothing.
func TestOnsBehindStates(t *testing.T) {
	one := compile(t, inChart("state A { state B {"+step+"on f go B } on e go y state C { end } on e go z }"))
	two := compile(t, inChart("state A { on e go y on e go z state B {"+step+"on f go B } state C { end } }"))
	a, _ := Make(one)
	b, _ := Make(two)
	if !Same(a, b) || len(a.Rows) != 3 || a.Rows[0].State != 1 || a.Rows[1].Target != 3 || a.Rows[2].Target != 4 {
		t.Error(a, b)
	}
}

// P12.1: as much as a right chart may have.
func TestGreatest(t *testing.T) {
	var text strings.Builder
	text.WriteString("chart c 1 { ")
	for i := range api.MaxVars {
		fmt.Fprintf(&text, "var v%d = %d ", i, i)
	}
	for i := range api.MaxStates {
		fmt.Fprintf(&text, "state s%d {%s", i, step)
		for k := range api.MaxOns {
			fmt.Fprintf(&text, "on e%d go s%d ", k, (i+k)%api.MaxStates)
		}
		text.WriteString("} ")
	}
	c := compile(t, text.String()+"}")
	c.States[7].Ons[5].Guard = wide(api.MaxNodes - 1)
	c.Vars[3].Name = "a"
	x, no := Make(c)
	if no != api.OK || len(x.Vars) != api.MaxVars || len(x.Steps) != api.MaxStates || len(x.Rows) != api.MaxStates*api.MaxOns {
		t.Fatal(no, x)
	}
	if code := x.Rows[7*api.MaxOns+5].Guard; len(code) != 58 || code[0] != (Instr{"load", 3}) {
		t.Error(code)
	}
	for at, r := range x.Rows {
		i, k := at/api.MaxOns, at%api.MaxOns
		if r.State != i || r.On != k || r.Event != fmt.Sprint("e", k) || r.Target != (i+k)%api.MaxStates || r.Scope != -1 || at != 47 && len(r.Guard) > 0 || len(r.Sets) > 0 {
			t.Error(at, r)
		}
	}
}

// wrongCharts is texts that are read, but whose charts aren't right, one for each of layer 8's rounds and more.
func wrongCharts() []string {
	return []string{
		"chart c 1 { }",
		"chart c 1 { " + strings.Repeat("var n = 0 ", 9) + "state A { end } }",
		"chart c 1 { " + strings.Repeat("state A { end } ", 41) + "}",
		inChart("state A {" + step + strings.Repeat("on e go z ", 7) + "}"),
		inChart("var n = 0 state A {" + step + "on e go z " + strings.Repeat("set n = 1 ", 5) + "}"),
		inChart("state A { end } state A { end }"),
		inChart("var n = 0 var n = 0 state A { end }"),
		inChart("state A { do x undo y at 4 retries 0 }"),
		inChart("state A { do x undo y at 0 retries 6 }"),
		inChart("state A {" + step + "on e if n go z }"),
		inChart("state A {" + step + "on e go z set n = 1 }"),
		inChart("state A { }"),
		inChart("state A { end on e go z }"),
		inChart("state A { all state B { end } }"),
		inChart("state A { on done go z state B { end } }"),
		inChart("state A {" + step + "on e go x }"),
		inChart("state A { all state B {" + step + "on e go C } state C { end } }"),
		inChart("state A {" + step + "on done go A }"),
	}
}

// P12.1: ErrArg of a chart that isn't right, read or not.
func TestWrongCharts(t *testing.T) {
	for _, s := range wrongCharts() {
		c, at, e := chart.Read(s)
		if e != api.OK {
			t.Fatal(at, e, s)
		}
		wantNoTable(t, c)
	}
	c := compile(t, pay)
	wantTable(t, chart.Strip(c), payTable(t))
	for _, change := range []func(c *chart.Chart){
		func(c *chart.Chart) { c.Name = "" },
		func(c *chart.Chart) { c.Name = "state" },
		func(c *chart.Chart) { c.Version = -1 },
		func(c *chart.Chart) { c.Vars[0].N = api.MaxInt + 1 },
		func(c *chart.Chart) { c.Vars[1].N = math.MinInt64 },
		func(c *chart.Chart) { c.States[0].End = true },
		func(c *chart.Chart) { c.States[0].Ons[0].Event = "" },
		func(c *chart.Chart) { c.States[0].Ons[0].Guard = loud{} },
		func(c *chart.Chart) { c.States[0].Ons[0].Sets[0].To = nil },
		func(c *chart.Chart) { c.States[0].Do = "" },
		func(c *chart.Chart) { c.States = nil },
	} {
		changed := chart.Strip(c)
		change(&changed)
		wantNoTable(t, changed)
	}
}

// changes is what makes a table another one, of each of its parts.
func changes() []func(t *Table) {
	return []func(t *Table){
		func(t *Table) { t.Name = "paid" },
		func(t *Table) { t.Version = 2 },
		func(t *Table) { t.Nodes[0].Name = "b" },
		func(t *Table) { t.Nodes[6].Parent = 0 },
		func(t *Table) { t.Nodes[3].Depth = 1 },
		func(t *Table) { t.Nodes[2].Behind = 4 },
		func(t *Table) { t.Nodes[1].All = false },
		func(t *Table) { t.Nodes[6].End = false },
		func(t *Table) { t.Nodes[5].Leaf = false },
		func(t *Table) { t.Nodes = t.Nodes[:6] },
		func(t *Table) { t.Nodes = append(t.Nodes, tree.Node{}) },
		func(t *Table) { t.Nodes = nil },
		func(t *Table) { t.Vars[1].Name = "n" },
		func(t *Table) { t.Vars[0].N = 1 },
		func(t *Table) { t.Vars[0], t.Vars[1] = t.Vars[1], t.Vars[0] },
		func(t *Table) { t.Vars = t.Vars[:1] },
		func(t *Table) { t.Steps[0].Do = "give" },
		func(t *Table) { t.Steps[3].Undo = "x" },
		func(t *Table) { t.Steps[5].Where = 1 },
		func(t *Table) { t.Steps[0].Retries = 3 },
		func(t *Table) { t.Steps[6].Retries = 1 },
		func(t *Table) { t.Steps = t.Steps[:6] },
		func(t *Table) { t.Rows[0].State = 4 },
		func(t *Table) { t.Rows[3].On = 0 },
		func(t *Table) { t.Rows[3].Event = "done" },
		func(t *Table) { t.Rows[1].Target = 5 },
		func(t *Table) { t.Rows[0].Scope = 1 },
		func(t *Table) { t.Rows[0].Guard = []Instr{{}} },
		func(t *Table) { t.Rows[2].Guard = nil },
		func(t *Table) { t.Rows[2].Guard[1].N = 4 },
		func(t *Table) { t.Rows[2].Guard[2].N = 1 },
		func(t *Table) { t.Rows[2].Guard[2].Op = "<=" },
		func(t *Table) { t.Rows[2].Sets[0].Var = 1 },
		func(t *Table) { t.Rows[2].Sets[1].Code[1].Op = "not" },
		func(t *Table) { t.Rows[2].Sets[1].Code[0].N = 1 },
		func(t *Table) { t.Rows[2].Sets[0].Code = nil },
		func(t *Table) { t.Rows[2].Sets = t.Rows[2].Sets[:1] },
		func(t *Table) { t.Rows[3].Sets = []Assign{{}} },
		func(t *Table) { t.Rows[0], t.Rows[1] = t.Rows[1], t.Rows[0] },
		func(t *Table) { t.Rows = t.Rows[:3] },
		func(t *Table) { t.Rows = append(t.Rows, Row{}) },
		func(t *Table) { t.Rows = nil },
		func(t *Table) { *t = Table{} },
	}
}

// P12.1: Same, of tables that differ in one part, be they right ones or not.
func TestSame(t *testing.T) {
	var all []Table
	for _, change := range changes() {
		x := payTable(t)
		change(&x)
		all = append(all, x)
	}
	all = append(all, payTable(t))
	for i, a := range all {
		for k, b := range all {
			if got := Same(a, b); got != (i == k) {
				t.Error(i, k, got)
			}
		}
	}
	if a, b := payTable(t), payTable(t); !Same(a, b) {
		t.Error("two alike")
	}
}

// P12.1: charts that differ have tables that differ, but where the table has nothing of it.
func TestSameOfCharts(t *testing.T) {
	made := func(s string) Table {
		x, no := Make(compile(t, s))
		if no != api.OK {
			t.Fatal(no, s)
		}
		return x
	}
	whole := made(pay)
	for _, k := range []struct {
		old, new string
		same     bool
	}{
		{"n < 3", "(n)<(3)", true},
		{"\t", "  ", true},
		{"chart pay 1", "# a remark\nchart pay 1", true},
		{"pay", "paid", false},
		{"pay 1", "pay 2", false},
		{"var k = -5", "var k = 5", false},
		{"n < 3", "n <= 3", false},
		{"n < 3", "3 < n", false},
		{" if n < 3", "", false},
		{"k = -n", "k = !n", false},
		{" set k = -n", "", false},
		{"on stop go z", "on stop go b", false},
		{"at 3", "at 2", false},
		{"retries 2", "retries 1", false},
		{"state f", "state g", false},
	} {
		changed := strings.Replace(pay, k.old, k.new, -1)
		if got := Same(whole, made(changed)); got != k.same || changed == pay {
			t.Error(k, got)
		}
	}
	if !slices.Equal(whole.Rows[2].Guard, instrs(t, "load 0, push 3, <")) {
		t.Error(whole.Rows[2])
	}
}
