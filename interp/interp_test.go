package interp

import (
	"fmt"
	"math"
	"slices"
	"strings"
	"testing"

	"tumbrel/api"
	"tumbrel/chart"
	"tumbrel/check"
	"tumbrel/expr"
	"tumbrel/guard"
	"tumbrel/react"
	"tumbrel/table"
)

// Short to write.
type (
	list    = []int
	numbers = []int64
)

// Situation is layer 11's, and Effect too, but of this package, so that they can be written without the names of their fields.
type (
	Situation struct {
		Active list
		Vars   numbers
		Busy   list
	}
	Effect struct {
		State, On     int
		Left, Entered list
	}
)

func start(x table.Table) Situation { return Situation(Start(x)) }

func take(x table.Table, s Situation, event string, done int) (Situation, Effect, bool) {
	n, e, ok := Take(x, react.Situation(s), event, done)
	return Situation(n), Effect(e), ok
}

// pay has the states a 0, b 1 with all, c 2 in it, d 3 and e 4 in that, f 5 in b, z 6.
const pay = `chart pay 1 {
	var n = 0
	var k = -5
	state a {
		do take undo give at 0 retries 2
		on done if n < 3 go b set n = n + 1 set k = -n
		on stop go z
	}
	state b {
		all
		state c {
			state d {
				do x undo y at 1 retries 0
				on done go e
			}
			state e {
				end
			}
		}
		state f {
			do p undo q at 3 retries 1
			on done go z
		}
	}
	state z {
		end
	}
}
`

// step is the words of a state's step, for states that need one.
const step = " do x undo y at 0 retries 0 "

// inChart is a chart with these variables and states, and behind them two ends, y and z.
func inChart(s string) string {
	return "chart c 1 { " + s + " state y { end } state z { end } }"
}

func compile(t *testing.T, s string) chart.Chart {
	t.Helper()
	c, at, e := check.Compile(s)
	if e != api.OK {
		t.Fatal(at, e, s)
	}
	return c
}

// made is a right chart's table.
func made(t *testing.T, c chart.Chart) table.Table {
	t.Helper()
	x, e := table.Make(c)
	if e != api.OK {
		t.Fatal(e, c)
	}
	return x
}

// tableOf is the table of a chart's text.
func tableOf(t *testing.T, s string) table.Table {
	t.Helper()
	return made(t, compile(t, s))
}

// instrs is code that is written as the chapter's examples write it.
func instrs(s string) []table.Instr {
	var code []table.Instr
	if s == "" {
		return nil
	}
	for _, one := range strings.Split(s, ", ") {
		var i table.Instr
		if _, e := fmt.Sscan(one, &i.Op, &i.N); e != nil {
			i = table.Instr{Op: one}
		}
		code = append(code, i)
	}
	return code
}

func wantRun(t *testing.T, code string, vars numbers, want int64) {
	t.Helper()
	if n, no := Run(instrs(code), vars); n != want || no != api.OK {
		t.Errorf("Run(%s, %v) = %d %v, want %d", code, vars, n, no, want)
	}
}

func wantNoValue(t *testing.T, code string, vars numbers, want api.Errno) {
	t.Helper()
	if n, no := Run(instrs(code), vars); n != 0 || no != want {
		t.Errorf("Run(%s, %v) = %d %v, want %v", code, vars, n, no, want)
	}
}

func sameSituation(a, b Situation) bool {
	return slices.Equal(a.Active, b.Active) && slices.Equal(a.Vars, b.Vars) && slices.Equal(a.Busy, b.Busy)
}

func sameEffect(a, b Effect) bool {
	return a.State == b.State && a.On == b.On && slices.Equal(a.Left, b.Left) && slices.Equal(a.Entered, b.Entered)
}

func wantTake(t *testing.T, x table.Table, s Situation, event string, done int, next Situation, effect Effect) {
	t.Helper()
	n, e, ok := take(x, s, event, done)
	if !ok || !sameSituation(n, next) || !sameEffect(e, effect) {
		t.Errorf("Take(%v, %q, %d) = %v %v %v, want %v %v", s, event, done, n, e, ok, next, effect)
	}
}

func wantNothing(t *testing.T, x table.Table, s Situation, event string, done int) {
	t.Helper()
	n, e, ok := take(x, s, event, done)
	if ok || !sameSituation(n, Situation{}) || !sameEffect(e, Effect{}) {
		t.Errorf("Take(%v, %q, %d) = %v %v %v, want nothing", s, event, done, n, e, ok)
	}
}

// wantOn fails if another on than number on of that state is taken, or none.
func wantOn(t *testing.T, x table.Table, s Situation, event string, state, on int) {
	t.Helper()
	if _, e, ok := take(x, s, event, -1); !ok || e.State != state || e.On != on {
		t.Errorf("Take(%v, %q) is by the on %d of %d (%v), want %d of %d", s, event, e.On, e.State, ok, on, state)
	}
}

// P13.1: the chapter's examples.
func TestExamples(t *testing.T) {
	wantRun(t, "push 2, push 3, -", nil, -1)
	wantNoValue(t, "load 5", numbers{1, 2, 3, 4, 5}, api.ErrForm)
	wantRun(t, "push 1, or 1, bool", nil, 1)
}

// P13.1: what each instruction makes of the stack.
func TestInstructions(t *testing.T) {
	vars := numbers{4, -7, 0, api.MaxInt, -api.MaxInt}
	for code, want := range map[string]int64{
		"push 0": 0, "push 1": 1, "push 1000000000": api.MaxInt,
		"load 0": 4, "load 1": -7, "load 2": 0, "load 3": api.MaxInt, "load 4": -api.MaxInt,
		"push 0, not": 1, "push 1, not": 0, "push 7, not": 0, "load 1, not": 0, "load 3, not": 0, "load 4, not": 0,
		"push 0, neg": 0, "push 5, neg": -5, "load 1, neg": 7, "load 3, neg": -api.MaxInt, "load 4, neg": api.MaxInt,
		"push 0, bool": 0, "push 1, bool": 1, "push 7, bool": 1, "load 1, bool": 1, "load 4, bool": 1,
		"push 2, push 3, +": 5, "load 1, load 0, +": -3, "load 3, load 4, +": 0,
		"push 2, push 3, -": -1, "push 3, push 2, -": 1, "load 0, load 1, -": 11, "load 3, load 3, -": 0,
		"push 2, push 3, *": 6, "load 0, load 1, *": -28, "load 1, load 1, *": 49, "load 4, push 0, *": 0,
		"push 2, push 3, <": 1, "push 3, push 2, <": 0, "push 2, push 2, <": 0, "load 1, load 0, <": 1, "load 4, load 3, <": 1,
		"push 2, push 3, <=": 1, "push 3, push 2, <=": 0, "push 2, push 2, <=": 1, "load 0, load 1, <=": 0, "load 4, load 4, <=": 1,
		"push 2, push 3, ==": 0, "push 3, push 2, ==": 0, "push 2, push 2, ==": 1, "load 0, push 4, ==": 1,
		"push 2, push 3, !=": 1, "push 3, push 2, !=": 1, "push 2, push 2, !=": 0, "load 0, push 4, !=": 0,
		// What lies below is left as it is.
		"push 9, push 2, push 3, -, -": 10, "push 9, push 0, not, -": 8, "push 9, push 3, neg, -": 12, "push 9, push 3, bool, -": 8,
		"push 9, load 0, -": 5, "push 9, push 1, or 0, -": 8, "push 9, push 5, and 0": 9,
		"push 1, push 2, push 3, *, +": 7, "push 1, push 2, +, push 3, *": 9,
	} {
		wantRun(t, code, vars, want)
	}
}

// P13.1: and and or: what they pass over, what stays on the stack, and what is popped.
func TestJumps(t *testing.T) {
	vars := numbers{4, -7}
	for code, want := range map[string]int64{
		// It stays, as 1 or 0.
		"push 1, or 0": 1, "push 7, or 0": 1, "load 1, or 0": 1, "push 0, and 0": 0,
		"push 7, or 1, bool": 1, "push 7, or 1, not": 1, "push 0, and 1, not": 0,
		"push 7, or 2, push 0, bool": 1, "push 0, and 2, push 7, bool": 0, "load 1, or 2, push 0, bool": 1,
		// It is popped.
		"push 0, or 1, push 7": 7, "push 1, and 1, push 7": 7, "push 5, and 2, push 7, neg": -7, "load 1, and 1, load 0": 4,
		"push 0, or 2, push 7, bool": 1, "push 0, or 2, push 0, bool": 0, "push 5, and 2, push 7, bool": 1, "push 5, and 2, push 0, bool": 0,
		"push 3, push 0, or 0": 3, "push 3, push 2, and 1, neg": -3,
		// Just as many are passed over.
		"push 1, or 1, neg, neg": -1, "push 1, or 2, neg, not, neg": -1, "push 0, and 1, not, not": 1, "push 0, and 3, push 1, push 2, push 3, not": 1,
		"push 1, or 1, or 1, neg": -1, "push 0, and 1, and 2, not": 1,
		// Into what is behind another jump, and one behind the other.
		"push 0, and 2, load 1, bool, or 2, load 0, bool": 1, "push 1, or 5, load 1, and 2, load 0, bool, bool": 1,
		"push 0, and 2, push 1, bool, and 2, push 1, bool": 0, "push 0, or 2, push 0, bool, or 2, push 3, bool": 1,
	} {
		wantRun(t, code, vars, want)
	}
}

// P13.1: of instructions that aren't come to nothing is asked.
func TestPassedOver(t *testing.T) {
	for _, passed := range []string{
		"what 7", "&&", "||", "push -1", "push 1000000001", "load 5", "load -1", "+", "or -1", "and 9", "or 9223372036854775807", "and -9223372036854775808",
	} {
		wantRun(t, "push 3, or 1, "+passed, nil, 1)
		wantRun(t, "push 0, and 1, "+passed, nil, 0)
		wantRun(t, "push 3, or 3, "+passed+", "+passed+", "+passed+", neg", nil, -1)
		// Come to, each has no value, whatever is on the stack.
		want := api.ErrForm
		if strings.HasPrefix(passed, "push") {
			want = api.ErrRange
		}
		wantNoValue(t, "push 0, or 1, "+passed, nil, want)
		wantNoValue(t, "push 3, and 1, "+passed, nil, want)
		wantNoValue(t, "push 3, or 1, "+passed+", "+passed, nil, want)
	}
}

// P13.1: ErrForm, of code that has no value for what it is.
func TestNoForm(t *testing.T) {
	vars := numbers{4, -7}
	for _, code := range []string{
		// None at the end, or more than one.
		"", "push 1, and 0", "push 0, or 0", "push 1, push 1", "load 0, load 1", "push 1, push 2, push 3, +", "push 2, push 3, or 1, +", "push 2, push 0, and 0",
		// From an empty stack.
		"not", "neg", "bool", "and 0", "or 0", "and 1, push 1", "or 1, push 1", "+", "-", "*", "<", "<=", "==", "!=",
		"push 1, +", "push 1, -", "push 1, *", "push 1, <", "push 1, <=", "push 1, ==", "push 1, !=",
		"+, push 1, push 2", "push 1, +, push 2", "push 1, push 2, +, +", "push 1, and 1, not", "push 0, or 2, bool, push 1", "push 1, and 0, and 0", "push 1, and 0, push 1, +",
		// No variable.
		"load 2", "load -1", "load 3", "load 4294967296", "load -4294967296", "load 9223372036854775807", "load -9223372036854775808", "push 1, load 2, +",
		// Another operation.
		"push 1, push 2, &&", "push 1, push 2, ||", "push 1, !", "push 1, what", "push 1, Not", "push 1, NEG", "push 1, push 2, >", "push 1, push 2, =", "push 1, push 2, >=", "push 1, push 2, /",
		"Push 1", "pushes 1", "loads 0", "Load 0", "pop", "push 1, pop", "push 1, jump 0", "push 1, not ", "push 1,  not", "push 1, ++", "push 1, and0",
		// A jump too far, or backwards, also where nothing is passed over.
		"push 1, or 1", "push 0, and 1", "push 1, or 2, bool", "push 0, and 3, push 1, bool", "push 1, or -1", "push 0, and -1", "push 1, or -2, bool",
		"push 0, or 2, push 1", "push 1, and 2, push 1", "push 0, or -1, push 1", "push 1, and -1, push 1",
		"push 1, or 9223372036854775807", "push 1, or -9223372036854775808", "push 1, or 4294967296", "push 0, or 4294967296, push 1", "push 1, and 4294967297, push 1",
	} {
		wantNoValue(t, code, vars, api.ErrForm)
	}
	if n, no := Run([]table.Instr{{N: 1}}, nil); n != 0 || no != api.ErrForm {
		t.Error(n, no)
	}
	if n, no := Run([]table.Instr{{Op: "push", N: 1}, {Op: "\xff"}}, nil); n != 0 || no != api.ErrForm {
		t.Error(n, no)
	}
}

// P13.1: ErrRange, of numbers out of range, and none at the edges.
func TestRange(t *testing.T) {
	const most = api.MaxInt
	vars := numbers{most, -most, most + 1, -most - 1, math.MaxInt64, math.MinInt64, 31622, 31623}
	for _, code := range []string{
		"push 1000000001", "push -1", "push -1000000000", "push 9223372036854775807", "push -9223372036854775808", "push 4294967296", "push -4294967296",
		"load 2", "load 3", "load 4", "load 5",
		"load 0, push 1, +", "push 1, load 0, +", "load 1, push 1, -", "load 0, load 1, -", "load 1, load 0, -", "load 0, load 0, +", "load 1, load 1, +",
		"load 7, load 7, *", "load 7, neg, load 7, *", "load 0, push 2, *", "load 1, push 2, *", "load 0, load 0, *", "load 1, load 1, *", "load 0, load 1, *",
		// Also where the value wouldn't count.
		"load 2, push 0, *", "load 2, not", "load 3, bool", "load 2, neg", "load 2, load 2, ==", "push 1000000001, not", "load 0, push 1, +, not", "push 0, or 2, load 2, bool", "load 2, or 1, bool",
	} {
		wantNoValue(t, code, vars, api.ErrRange)
	}
	for code, want := range map[string]int64{
		"push 1000000000": most, "push 0": 0, "load 0": most, "load 1": -most, "push 999999999, push 1, +": most, "load 1, push 1, +": 1 - most, "load 1, push 0, -": -most,
		"push 1, load 0, -": 1 - most, "load 6, load 6, *": 999950884, "load 6, neg, load 6, *": -999950884, "load 0, push 1, *": most, "load 1, push 1, *": -most, "load 0, push 1, neg, *": -most,
		"load 0, neg": -most, "load 1, neg": most, "load 0, load 1, <": 0, "load 1, load 0, <": 1,
		// A number of an operation that has none counts for nothing.
		"push 1, not -1": 0, "push 1, neg 1000000001": -1, "push 1, push 2, + -9": 3, "push 1, bool 9223372036854775807": 1,
		// Of variables that aren't loaded nothing is asked.
		"push 1, or 2, load 2, bool": 1, "push 0, and 2, load 5, bool": 0,
	} {
		wantRun(t, code, vars, want)
	}
}

// P13.1: of both errors the one that is met first.
func TestFirstError(t *testing.T) {
	vars := numbers{api.MaxInt, api.MaxInt + 1}
	for code, want := range map[string]api.Errno{
		"push -1, what": api.ErrRange, "what, push -1": api.ErrForm,
		"load 1, load 2": api.ErrRange, "load 2, load 1": api.ErrForm,
		"push -1, push 1": api.ErrRange, "push 1, push -1": api.ErrRange, "push 1, push 1, push -1": api.ErrRange,
		"load 0, push 1, +, +": api.ErrRange, "push 1, +, load 1": api.ErrForm,
		"push 1, or 9, push -1": api.ErrForm, "push -1, or 9": api.ErrRange,
		"push 0, or 1, push -1, what": api.ErrRange, "push 1, and 2, not, push -1": api.ErrForm,
		"load 0, load 0, load 0, *": api.ErrRange, "load 0, *": api.ErrForm,
	} {
		wantNoValue(t, code, vars, want)
	}
}

// longSum is code of n instructions, an odd number, whose value is (n + 1) / 2.
func longSum(n int) []table.Instr {
	code := instrs("push 1")
	for len(code) < n {
		code = append(code, instrs("push 1, +")...)
	}
	return code
}

// P13.1: at most 1000 instructions, whatever they are, and whether they are come to or not.
func TestLong(t *testing.T) {
	run := func(code []table.Instr, want int64, e api.Errno) {
		t.Helper()
		if n, no := Run(code, numbers{1}); n != want || no != e {
			t.Errorf("Run of %d instructions = %d %v, want %d %v", len(code), n, no, want, e)
		}
	}
	run(longSum(999), 500, api.OK)
	run(append(longSum(999), table.Instr{Op: "neg"}), -500, api.OK)
	run(longSum(1001), 0, api.ErrLong)
	run(append(longSum(999), instrs("neg, neg")...), 0, api.ErrLong)
	deep := slices.Repeat(instrs("push 1"), 500)
	run(append(deep, slices.Repeat(instrs("+"), 499)...), 500, api.OK)
	run(append(deep, slices.Repeat(instrs("+"), 500)...), 0, api.ErrForm)
	run(append(deep, slices.Repeat(instrs("+"), 501)...), 0, api.ErrLong)
	// Passed over.
	run(append(instrs("push 3, or 998"), make([]table.Instr, 998)...), 1, api.OK)
	run(append(instrs("push 3, or 999"), make([]table.Instr, 999)...), 0, api.ErrLong)
	run(append(instrs("push 3, or 999"), make([]table.Instr, 998)...), 0, api.ErrForm)
	run(append(instrs("push -1"), make([]table.Instr, 999)...), 0, api.ErrRange)
	run(append(instrs("push -1"), make([]table.Instr, 1000)...), 0, api.ErrLong)
	run(make([]table.Instr, 1000), 0, api.ErrForm)
	run(make([]table.Instr, 1001), 0, api.ErrLong)
	run(make([]table.Instr, 1<<20), 0, api.ErrLong)
}

// P13.3: expressions' values by their code, written out.
func TestExpressions(t *testing.T) {
	vars := []api.Var{{Name: "x", N: 2}, {Name: "y"}, {Name: "most", N: api.MaxInt}, {Name: "over", N: api.MaxInt + 1}, {Name: "x", N: 9}}
	for s, want := range map[string]struct {
		n int64
		e api.Errno
	}{
		"x < 3 && !y": {1, api.OK}, "1000000000 + 1": {0, api.ErrRange}, "x": {2, api.OK}, "-x": {-2, api.OK}, "x - 3 - 4": {-5, api.OK}, "x - (3 - 4)": {3, api.OK},
		"0 && over": {0, api.OK}, "1 || over": {1, api.OK}, "1 && over": {0, api.ErrRange}, "over || 1": {0, api.ErrRange}, "over && 0": {0, api.ErrRange}, "!over": {0, api.ErrRange},
		"x && y": {0, api.OK}, "x && most": {1, api.OK}, "y || x": {1, api.OK}, "y || 0": {0, api.OK}, "most * most": {0, api.ErrRange}, "-most": {-api.MaxInt, api.OK},
		"y && most + 1 || x": {1, api.OK}, "x || most + 1 && y": {1, api.OK}, "(x || most + 1) && y": {0, api.OK}, "most + 1 < 0": {0, api.ErrRange},
	} {
		e, no := guard.Parse(s)
		if no != api.OK {
			t.Fatal(s, no)
		}
		wantEval(t, e, vars)
		code, _ := table.Code(e, vars)
		if n, no := Run(code, justNumbers(vars)); n != want.n || no != want.e {
			t.Errorf("Run of %s = %d %v, want %d %v", s, n, no, want.n, want.e)
		}
	}
}

// justNumbers is the variables' numbers.
func justNumbers(vars []api.Var) numbers {
	var l numbers
	for _, v := range vars {
		l = append(l, v.N)
	}
	return l
}

// wantEval fails if Run doesn't tell of an expression's code what Eval tells of it; it answers that.
func wantEval(t *testing.T, e expr.Expr, vars []api.Var) api.Errno {
	t.Helper()
	code, no := table.Code(e, vars)
	if no != api.OK {
		t.Fatal(e, vars, no)
	}
	want, wantNo := expr.Eval(e, vars)
	n, no := Run(code, justNumbers(vars))
	if n != want || no != wantNo {
		t.Errorf("Run(%v, %v) = %d %v, want %d %v", code, vars, n, no, want, wantNo)
	}
	return no
}

// wantStart fails if Start of c's table is not that, or not layer 11's one of c.
func wantStart(t *testing.T, c chart.Chart, want Situation) {
	t.Helper()
	if s := start(made(t, c)); !sameSituation(s, want) {
		t.Errorf("Start(%v) = %v, want %v", c, s, want)
	}
	if s, e := react.Start(c); e != api.OK || !sameSituation(Situation(s), want) {
		t.Errorf("layer 11's Start(%v) = %v %v, want %v", c, s, e, want)
	}
}

// P13.2: Start, some answers written out.
func TestStart(t *testing.T) {
	for s, want := range map[string]Situation{
		pay:                               {list{0}, numbers{0, -5}, nil},
		"chart c 1 { state A { end } }":   {list{0}, nil, nil},
		inChart("state A {" + step + "}"): {list{0}, nil, nil},
		inChart("state A { state B { state C { end } } state D { end } }"):                                                        {list{0, 1, 2}, nil, nil},
		inChart("state A { all state B { state C { end } state D { end } } state E { end } state F { state G {" + step + "} } }"): {list{0, 1, 2, 4, 5, 6}, nil, nil},
		inChart("var a = 1000000000 var b = - 1000000000 var c = 0 var d = - 0 state A { end }"):                                  {list{0}, numbers{api.MaxInt, -api.MaxInt, 0, 0}, nil},
		inChart("var h = 1 var g = 2 var f = 3 var e = 4 var d = 5 var c = 6 var b = 7 var a = 8 state A { end }"):                {list{0}, numbers{1, 2, 3, 4, 5, 6, 7, 8}, nil},
	} {
		wantStart(t, compile(t, s), want)
	}
}

// P13.2: of situations that are none of the chart nothing is taken, some written out.
func TestSituationsOfPay(t *testing.T) {
	x := tableOf(t, pay)
	vars := numbers{0, 0}
	for _, s := range []Situation{
		{},
		// Active isn't legal.
		{nil, vars, nil}, {list{0, 6}, vars, nil}, {list{1, 2, 3}, vars, nil}, {list{5, 3, 2, 1}, vars, nil}, {list{0, 0}, vars, nil}, {list{7}, vars, nil}, {list{-1}, vars, nil},
		// Vars are too few, too many, or out of range.
		{list{0}, nil, nil}, {list{0}, numbers{0}, nil}, {list{0}, numbers{0, 0, 0}, nil},
		{list{0}, numbers{api.MaxInt + 1, 0}, nil}, {list{0}, numbers{0, api.MaxInt + 1}, nil}, {list{0}, numbers{-api.MaxInt - 1, 0}, nil}, {list{0}, numbers{0, -api.MaxInt - 1}, nil},
		{list{0}, numbers{0, math.MaxInt64}, nil}, {list{0}, numbers{math.MinInt64, 0}, nil}, {list{0}, numbers{1 << 32, 0}, nil},
		// Busy doesn't rise.
		{list{0}, vars, list{0, 0}}, {list{1, 2, 3, 5}, vars, list{5, 3}}, {list{1, 2, 3, 5}, vars, list{3, 3, 5}}, {list{1, 2, 3, 5}, vars, list{3, 5, 3}},
		// Busy is of states that aren't active, or are none.
		{list{0}, vars, list{3}}, {list{0}, vars, list{0, 5}}, {list{1, 2, 4, 5}, vars, list{3}}, {list{6}, vars, list{0}},
		{list{0}, vars, list{-1}}, {list{0}, vars, list{-1, 0}}, {list{0}, vars, list{0, 7}}, {list{0}, vars, list{math.MinInt}}, {list{0}, vars, list{0, math.MaxInt}}, {list{0}, vars, list{1 << 32}},
		// Busy is of states without a step.
		{list{6}, vars, list{6}}, {list{1, 2, 4, 5}, vars, list{4}}, {list{1, 2, 3, 5}, vars, list{1}}, {list{1, 2, 3, 5}, vars, list{2, 3}}, {list{1, 2, 3, 5}, vars, list{1, 2, 3, 5}},
	} {
		for done := range 7 {
			wantNothing(t, x, s, "done", done)
			wantNothing(t, x, s, "stop", done)
		}
	}
}

// chosen is the numbers of the bits of a mask, rising.
func chosen(mask int) list {
	var l list
	for i := range 20 {
		if mask>>i&1 == 1 {
			l = append(l, i)
		}
	}
	return l
}

// P13.2: a way through pay, to its end.
func TestPay(t *testing.T) {
	x := tableOf(t, pay)
	s := start(x)
	wantTake(t, x, s, "done", 0, Situation{list{1, 2, 3, 5}, numbers{1, -1}, nil}, Effect{0, 0, list{0}, list{1, 2, 3, 5}})
	wantTake(t, x, s, "stop", 0, Situation{list{6}, numbers{0, -5}, nil}, Effect{0, 1, list{0}, list{6}})
	s = Situation{list{1, 2, 3, 5}, numbers{1, -1}, nil}
	wantTake(t, x, s, "done", 3, Situation{list{1, 2, 4, 5}, numbers{1, -1}, nil}, Effect{3, 0, list{3}, list{4}})
	wantTake(t, x, s, "done", 5, Situation{list{6}, numbers{1, -1}, nil}, Effect{5, 0, list{5, 3, 2, 1}, list{6}})
	s = Situation{list{1, 2, 4, 5}, numbers{1, -1}, nil}
	wantTake(t, x, s, "done", 5, Situation{list{6}, numbers{1, -1}, nil}, Effect{5, 0, list{5, 4, 2, 1}, list{6}})
	for done := range 7 {
		wantNothing(t, x, Situation{list{6}, numbers{1, -1}, nil}, "done", done)
	}
}

// P13.2: an on is enabled for its own event alone.
func TestEvents(t *testing.T) {
	x := tableOf(t, inChart("state A {"+step+"on e go y on done go y on e2 go z on E go z }"))
	s := Situation{Active: list{0}}
	for event, on := range map[string]int{"e": 0, "done": 1, "e2": 2, "E": 3} {
		if _, e, ok := take(x, s, event, 0); !ok || e.On != on {
			t.Error(event, e, ok)
		}
	}
	for _, event := range []string{"", "f", "Done", "DONE", "done ", " done", "don", "e ", "e\x00", "e22", "if", "on", "A", "y", "x", "\xff", strings.Repeat("e", 1<<16)} {
		wantNothing(t, x, s, event, 0)
	}
}

// P13.2: of the event done just the state's ons are asked that is done, if it is active.
func TestDone(t *testing.T) {
	x := tableOf(t, inChart("state A { all on e go y state B {"+step+"on done go y } state C {"+step+"on done go z } state D {"+step+"} } state E {"+step+"on done go y }"))
	s := Situation{Active: list{0, 1, 2, 3}}
	wantTake(t, x, s, "done", 1, Situation{Active: list{5}}, Effect{1, 0, list{3, 2, 1, 0}, list{5}})
	wantTake(t, x, s, "done", 2, Situation{Active: list{6}}, Effect{2, 0, list{3, 2, 1, 0}, list{6}})
	for _, done := range []int{0, 3, 4, 5, 6, 7, -1, -2, 40, math.MinInt, math.MaxInt, 1 << 32, 1<<32 + 1, -1<<32 + 1} {
		wantNothing(t, x, s, "done", done)
	}
	for _, done := range []int{0, 1, 2, 3, 4, 7, -1, math.MinInt, math.MaxInt} {
		wantTake(t, x, s, "e", done, Situation{Active: list{5}}, Effect{0, 0, list{3, 2, 1, 0}, list{5}})
	}
}

// P13.2: just the ons of active states are enabled.
func TestActive(t *testing.T) {
	x := tableOf(t, inChart("state A { state B {"+step+"on e go y } state C {"+step+"on f go y } } state D { on g go z state E {"+step+"} }"))
	for _, s := range []struct {
		active list
		events string
	}{{list{0, 1}, "e"}, {list{0, 2}, "f"}, {list{3, 4}, "g"}, {list{5}, ""}, {list{6}, ""}} {
		for _, event := range []string{"e", "f", "g"} {
			if _, _, ok := take(x, Situation{Active: s.active}, event, s.active[0]); ok != (event == s.events) {
				t.Error(s, event, ok)
			}
		}
	}
}

// busyChart has its states' numbers in their names.
const busyChart = `chart c 1 {
	state s0 {
		all
		on out go s9
		state s1 {
			state s2 {
				on inside go s4
				on next go s5
				state s3 { do x undo y at 0 retries 0 on done go s9 on done go s4 on next go s3 on far go s9 on far go s5 }
				state s4 { do x undo y at 0 retries 0 on next go s3 }
			}
			state s5 { do x undo y at 0 retries 0 on out go s2 }
		}
		state s6 {
			state s7 { do x undo y at 0 retries 0 on done go s8 on out go s7 on out go s8 }
			state s8 { end }
		}
	}
	state s9 { end }
}`

// P13.2: an on that would leave what is busy isn't enabled, however deep that lies; the next one is asked then. What is busy elsewhere stays so.
func TestBusy(t *testing.T) {
	x := tableOf(t, busyChart)
	at := func(active, busy list) Situation { return Situation{Active: active, Busy: busy} }
	from, then := list{0, 1, 2, 3, 6, 7}, list{0, 1, 2, 4, 6, 7}
	wantTake(t, x, at(from, nil), "done", 3, at(list{9}, nil), Effect{3, 0, list{7, 6, 3, 2, 1, 0}, list{9}})
	wantTake(t, x, at(from, list{7}), "done", 3, at(then, list{7}), Effect{3, 1, list{3}, list{4}})
	wantNothing(t, x, at(from, list{3}), "done", 3)
	wantNothing(t, x, at(from, list{3, 7}), "done", 3)
	wantTake(t, x, at(from, list{3}), "done", 7, at(list{0, 1, 2, 3, 6, 8}, list{3}), Effect{7, 0, list{7}, list{8}})
	wantNothing(t, x, at(from, list{7}), "done", 7)
	// An outer state's on leaves what lies in that.
	wantTake(t, x, at(from, nil), "inside", 0, at(then, nil), Effect{2, 0, list{3, 2}, list{2, 4}})
	wantTake(t, x, at(from, list{7}), "inside", 0, at(then, list{7}), Effect{2, 0, list{3, 2}, list{2, 4}})
	wantNothing(t, x, at(from, list{3}), "inside", 0)
	wantNothing(t, x, at(then, list{4}), "inside", 0)
	wantTake(t, x, at(then, list{7}), "inside", 0, at(then, list{7}), Effect{2, 0, list{4, 2}, list{2, 4}})
	// What is left, and entered again at once, is left too.
	wantTake(t, x, at(from, list{7}), "next", 0, at(from, list{7}), Effect{3, 2, list{3}, list{3}})
	wantNothing(t, x, at(from, list{3}), "next", 0)
	wantTake(t, x, at(from, nil), "far", 0, at(list{9}, nil), Effect{3, 3, list{7, 6, 3, 2, 1, 0}, list{9}})
	wantTake(t, x, at(from, list{7}), "far", 0, at(list{0, 1, 5, 6, 7}, list{7}), Effect{3, 4, list{3, 2}, list{5}})
	// The deepest state's ons are taken ahead of outer ones, but for what is busy.
	wantTake(t, x, at(from, nil), "out", 0, at(from, nil), Effect{7, 1, list{7}, list{7}})
	wantNothing(t, x, at(from, list{7}), "out", 0)
	five := list{0, 1, 5, 6, 7}
	wantTake(t, x, at(five, list{7}), "out", 0, at(from, list{7}), Effect{5, 0, list{5}, list{2, 3}})
	wantTake(t, x, at(five, list{5}), "out", 0, at(five, list{5}), Effect{7, 1, list{7}, list{7}})
	wantNothing(t, x, at(five, list{5, 7}), "out", 0)
	wantTake(t, x, at(list{0, 1, 2, 3, 6, 8}, nil), "out", 0, at(list{9}, nil), Effect{0, 0, list{8, 6, 3, 2, 1, 0}, list{9}})
	wantNothing(t, x, at(list{0, 1, 2, 3, 6, 8}, list{3}), "out", 0)
}

// guarded is a chart with an on of e by a guard, of a variable n, and one behind it without.
func guarded(guard string) string {
	return inChart("var n = 0 var m = 0 state A {" + step + "on e if " + guard + " go y on e go z }")
}

// P13.2: a guard lets its on be taken, if its value isn't 0: an error is none.
func TestGuards(t *testing.T) {
	for _, k := range []struct {
		guard string
		n     int64
		let   bool
	}{
		{"1", 0, true}, {"0", 0, false}, {"2", 0, true}, {"1000000000", 0, true}, {"-1", 0, true}, {"-0", 0, false},
		{"n", 0, false}, {"n", 1, true}, {"n", -1, true}, {"n", api.MaxInt, true}, {"n", -api.MaxInt, true},
		{"n < 3", 2, true}, {"n < 3", 3, false}, {"!n", 0, true}, {"!n", 7, false}, {"n - 5", 5, false}, {"n - 5", 4, true},
		// Out of range.
		{"n + 1", api.MaxInt, false}, {"n + 1", api.MaxInt - 1, true}, {"n - 1", -api.MaxInt, false}, {"n * n", 31623, false}, {"n * n", 31622, true},
		{"!(n + 1)", api.MaxInt, false}, {"1 || n + 1", api.MaxInt, true}, {"n + 1 || 1", api.MaxInt, false}, {"0 && n + 1", api.MaxInt, false}, {"!(0 && n + 1)", api.MaxInt, true},
		// Another variable.
		{"m == 7", 0, true}, {"n == m", 7, true}, {"n == m", 0, false},
	} {
		on := 1
		if k.let {
			on = 0
		}
		wantOn(t, tableOf(t, guarded(k.guard)), Situation{Active: list{0}, Vars: numbers{k.n, 7}}, "e", 0, on)
	}
}

// setting is a chart with an on of e with these sets, of the variables a, b and c, and one behind it without.
func setting(sets string) string {
	return inChart("var a = 0 var b = 0 var c = 0 state A {" + step + "on e go y " + sets + " on e go z }")
}

// P13.2: sets are made one behind the other; if one has no value, the on isn't enabled.
func TestSets(t *testing.T) {
	const most = api.MaxInt
	for _, k := range []struct {
		sets string
		from numbers
		want numbers
	}{
		{"", numbers{1, 2, 3}, numbers{1, 2, 3}},
		{"set b = 9", numbers{1, 2, 3}, numbers{1, 9, 3}},
		{"set a = b set b = a", numbers{1, 2, 3}, numbers{2, 2, 3}},
		{"set c = a set a = b set b = c", numbers{1, 2, 3}, numbers{2, 1, 1}},
		{"set a = a + 1 set a = a * a set b = a set a = -a", numbers{1, 2, 3}, numbers{-4, 4, 3}},
		{"set a = a < b set b = a && c set c = !a", numbers{1, 2, 3}, numbers{1, 1, 0}},
		{"set a = 1000000000 set b = -1000000000", numbers{1, 2, 3}, numbers{most, -most, 3}},
		{"set a = a + 1", numbers{most - 1, 2, 3}, numbers{most, 2, 3}},
		{"set a = a - 1", numbers{1 - most, 2, 3}, numbers{-most, 2, 3}},
		{"set a = -a", numbers{-most, 2, 3}, numbers{most, 2, 3}},
		// The first one makes room for the second one, or takes it.
		{"set a = 0 set a = a + 1", numbers{most, 2, 3}, numbers{1, 2, 3}},
		{"set b = 0 set a = a + b", numbers{most, 1, 3}, numbers{most, 0, 3}},
		{"set a = 1000000000 set a = a + 1", numbers{0, 2, 3}, nil},
		{"set b = 1 set a = a + b", numbers{most, 0, 3}, nil},
		// Out of range, at each place.
		{"set a = a + 1", numbers{most, 2, 3}, nil},
		{"set a = a - 1", numbers{-most, 2, 3}, nil},
		{"set a = a * a", numbers{31623, 2, 3}, nil},
		{"set b = 1 set c = 1 set b = 2 set a = a + 1", numbers{most, 2, 3}, nil},
		{"set a = a + 1 set a = 0", numbers{most, 2, 3}, nil},
		{"set b = a + 1 set a = 0 set b = 0 set c = 0", numbers{most, 2, 3}, nil},
		{"set b = 0 && a + 1", numbers{most, 2, 3}, numbers{most, 0, 3}},
	} {
		x := tableOf(t, setting(k.sets))
		s := Situation{Active: list{0}, Vars: k.from}
		if k.want == nil {
			wantTake(t, x, s, "e", 0, Situation{list{2}, k.from, nil}, Effect{0, 1, list{0}, list{2}})
		} else {
			wantTake(t, x, s, "e", 0, Situation{list{1}, k.want, nil}, Effect{0, 0, list{0}, list{1}})
		}
	}
}

// P13.2: the guard is asked of the variables as they were ahead of the sets, and sets of the first on count for nothing in the next one.
func TestGuardAheadOfSets(t *testing.T) {
	x := tableOf(t, inChart("var n = 0 var m = 0 state A {"+step+"on e if n < 3 go y set n = 5 set m = m + 1 on e if n < 3 go z set m = n }"))
	wantTake(t, x, Situation{list{0}, numbers{2, 0}, nil}, "e", 0, Situation{list{1}, numbers{5, 1}, nil}, Effect{0, 0, list{0}, list{1}})
	wantTake(t, x, Situation{list{0}, numbers{2, api.MaxInt}, nil}, "e", 0, Situation{list{2}, numbers{2, 2}, nil}, Effect{0, 1, list{0}, list{2}})
	wantNothing(t, x, Situation{list{0}, numbers{3, 0}, nil}, "e", 0)
}

// P13.2: the first enabled on of a state is taken, whichever those are.
func TestFirstOn(t *testing.T) {
	x := tableOf(t, inChart("var a = 0 var b = 0 var c = 0 state A {"+step+"on e if a go y on f go z on e if b go z on e if c go y }"))
	ons := list{0, 2, 3}
	for mask := range 8 {
		s := Situation{Active: list{0}, Vars: numbers{int64(mask & 1), int64(mask >> 1 & 1), int64(mask >> 2 & 1)}}
		if mask == 0 {
			wantNothing(t, x, s, "e", 0)
			continue
		}
		wantOn(t, x, s, "e", 0, ons[chosen(mask)[0]])
	}
}

// orderChart has six states that are active together, each with one on, which a variable of the same number lets be taken; how deep they lie stands in their names.
const orderChart = `chart c 1 {
	var a = 0
	var b = 0
	var c = 0
	var d = 0
	var f = 0
	var g = 0
	state deep0 {
		all
		on e if a go z
		state deep1 { do x undo y at 0 retries 0 on e if b go z }
		state deep1b {
			on e if c go z
			state deep2 { do x undo y at 0 retries 0 on e if d go z }
		}
		state deep1c {
			on e if f go z
			state deep2b { do x undo y at 0 retries 0 on e if g go z }
		}
	}
	state z { end }
}`

// P13.2: the deepest state with an enabled on comes first, of states as deep the one of the least number: of each choice of enabled ones.
func TestDeepestFirst(t *testing.T) {
	x := tableOf(t, orderChart)
	active := list{0, 1, 2, 3, 4, 5}
	order := list{3, 5, 1, 2, 4, 0}
	for mask := range 1 << 6 {
		s := Situation{Active: active, Vars: make(numbers, 6)}
		for _, i := range chosen(mask) {
			s.Vars[i] = 1
		}
		at := slices.IndexFunc(order, func(i int) bool { return mask>>i&1 == 1 })
		if at < 0 {
			wantNothing(t, x, s, "e", 0)
			continue
		}
		wantTake(t, x, s, "e", 0, Situation{list{6}, s.Vars, nil}, Effect{order[at], 0, list{5, 4, 3, 2, 1, 0}, list{6}})
	}
}

// P13.2: an outer state's on is taken, if none of an inner one is enabled, for whatever reason.
func TestOuterInstead(t *testing.T) {
	for _, inner := range []string{"", "on f go y", "on e if 0 go y", "on e if n + 1 go y", "on e go y set n = n + 1"} {
		x := tableOf(t, inChart("var n = 0 state A { on e go z state B {"+step+inner+" } }"))
		wantTake(t, x, Situation{list{0, 1}, numbers{api.MaxInt}, nil}, "e", 0, Situation{list{3}, numbers{api.MaxInt}, nil}, Effect{0, 0, list{1, 0}, list{3}})
	}
	// Two states are active: the inner one's on would leave what is busy, and so would the outer one's; but one as deep as the inner one wouldn't.
	x := tableOf(t, "chart c 1 { state A { all on e go z state B { state C {"+step+"on e go D } state D { end } } state E { state F {"+step+"on e go G } state G { end } } } state z { end } }")
	wantTake(t, x, Situation{list{0, 1, 2, 4, 5}, nil, list{2}}, "e", 0, Situation{list{0, 1, 2, 4, 6}, nil, list{2}}, Effect{5, 0, list{5}, list{6}})
	wantTake(t, x, Situation{list{0, 1, 2, 4, 5}, nil, list{5}}, "e", 0, Situation{list{0, 1, 3, 4, 5}, nil, list{5}}, Effect{2, 0, list{2}, list{3}})
	wantNothing(t, x, Situation{list{0, 1, 2, 4, 5}, nil, list{2, 5}}, "e", 0)
}

// P13.2: targets that lie ahead, behind, within, without and at the on's state itself.
func TestTargets(t *testing.T) {
	const text = `chart c 1 {
		state s0 {
			on in go s3
			on self go s0
			state s1 {
				on out go s0
				on self go s1
				state s2 { do x undo y at 0 retries 0 on self go s2 on next go s3 on up go s1 on top go s0 on far go s6 }
				state s3 { do x undo y at 0 retries 0 on back go s2 on both go s5 }
			}
			state s4 { do x undo y at 0 retries 0 }
		}
		state s5 {
			all
			on back go s3
			state s6 { do x undo y at 0 retries 0 on back go s4 on self go s5 }
			state s7 {
				state s8 { do x undo y at 0 retries 0 }
				state s9 { end }
			}
		}
	}`
	x := tableOf(t, text)
	at := func(active ...int) Situation { return Situation{Active: active} }
	wantTake(t, x, at(0, 1, 2), "in", 0, at(0, 1, 3), Effect{0, 0, list{2, 1, 0}, list{0, 1, 3}})
	wantTake(t, x, at(0, 4), "in", 0, at(0, 1, 3), Effect{0, 0, list{4, 0}, list{0, 1, 3}})
	wantTake(t, x, at(0, 4), "self", 0, at(0, 1, 2), Effect{0, 1, list{4, 0}, list{0, 1, 2}})
	wantTake(t, x, at(0, 1, 3), "self", 0, at(0, 1, 2), Effect{1, 1, list{3, 1}, list{1, 2}})
	wantTake(t, x, at(0, 1, 3), "out", 0, at(0, 1, 2), Effect{1, 0, list{3, 1, 0}, list{0, 1, 2}})
	wantTake(t, x, at(0, 1, 2), "self", 0, at(0, 1, 2), Effect{2, 0, list{2}, list{2}})
	wantTake(t, x, at(0, 1, 2), "next", 0, at(0, 1, 3), Effect{2, 1, list{2}, list{3}})
	wantTake(t, x, at(0, 1, 2), "up", 0, at(0, 1, 2), Effect{2, 2, list{2, 1}, list{1, 2}})
	wantTake(t, x, at(0, 1, 2), "top", 0, at(0, 1, 2), Effect{2, 3, list{2, 1, 0}, list{0, 1, 2}})
	wantTake(t, x, at(0, 1, 2), "far", 0, at(5, 6, 7, 8), Effect{2, 4, list{2, 1, 0}, list{5, 6, 7, 8}})
	wantTake(t, x, at(0, 1, 3), "back", 0, at(0, 1, 2), Effect{3, 0, list{3}, list{2}})
	wantTake(t, x, at(0, 1, 3), "both", 0, at(5, 6, 7, 8), Effect{3, 1, list{3, 1, 0}, list{5, 6, 7, 8}})
	wantTake(t, x, at(5, 6, 7, 9), "back", 0, at(0, 4), Effect{6, 0, list{9, 7, 6, 5}, list{0, 4}})
	wantTake(t, x, at(5, 6, 7, 9), "self", 0, at(5, 6, 7, 8), Effect{6, 1, list{9, 7, 6, 5}, list{5, 6, 7, 8}})
	wantNothing(t, x, Situation{list{5, 6, 7, 8}, nil, list{8}}, "back", 0)
}

// P13.2: the greatest charts: 40 states, 8 variables, 6 ons with 4 sets each, 6 deep.
func TestGreatest(t *testing.T) {
	var b strings.Builder
	b.WriteString("chart c 1 { ")
	for k := range 8 {
		fmt.Fprintf(&b, "var v%d = %d ", k, k)
	}
	ons := strings.Repeat("on e if v0 == 8 go s0 set v7 = v6 set v6 = v7 set v5 = v4 set v4 = v5 ", 5)
	last := "on e if v0 == 0 go s0 set v0 = v1 + 1 set v1 = v0 + 1 set v2 = v1 + 1 set v7 = v2 + 1 "
	b.WriteString("state s0 { " + ons + last + "state s1 { state s2 { state s3 { state s4 { all ")
	for i := 5; i < 40; i++ {
		fmt.Fprintf(&b, "state s%d {%s} ", i, step)
	}
	b.WriteString("} } } } } }")
	c := compile(t, b.String())
	x := made(t, c)
	var active, leaves, left list
	for i := range 40 {
		active, left = append(active, i), append(list{i}, left...)
		if i >= 5 {
			leaves = append(leaves, i)
		}
	}
	s := Situation{active, numbers{0, 1, 2, 3, 4, 5, 6, 7}, nil}
	wantStart(t, c, s)
	wantTake(t, x, s, "e", 0, Situation{active, numbers{2, 3, 4, 3, 4, 5, 6, 5}, nil}, Effect{0, 5, left, active})
	s.Busy = leaves
	wantNothing(t, x, s, "e", 0)
	s.Busy = list{39}
	wantNothing(t, x, s, "e", 0)
}

// P13.2: the most rows: 40 states with 6 ons each, in each of which the last one is taken.
func TestMostRows(t *testing.T) {
	var b strings.Builder
	b.WriteString("chart c 1 { ")
	for i := range api.MaxStates {
		fmt.Fprintf(&b, "state s%d {%s%son e go s%d } ", i, step, strings.Repeat("on e if 0 go s0 ", 5), (i+7)%api.MaxStates)
	}
	x := tableOf(t, b.String()+"}")
	if len(x.Rows) != api.MaxStates*api.MaxOns {
		t.Error(len(x.Rows))
	}
	for i := range api.MaxStates {
		to := (i + 7) % api.MaxStates
		wantTake(t, x, Situation{Active: list{i}}, "e", 0, Situation{Active: list{to}}, Effect{i, 5, list{i}, list{to}})
	}
}
