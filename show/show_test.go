package show

import (
	"fmt"
	"math"
	"reflect"
	"slices"
	"strconv"
	"strings"
	"testing"
	"unsafe"

	"tumbrel/api"
	"tumbrel/chart"
	"tumbrel/expr"
	"tumbrel/glyph"
	"tumbrel/guard"
)

// Short to write.
type (
	tree  = expr.Expr
	Chart = chart.Chart
	Var   = chart.Var
	State = chart.State
	On    = chart.On
	Set   = chart.Set
)

func lit(n int64) tree                   { return expr.Lit{N: n} }
func ref(name string) tree               { return expr.Ref{Name: name} }
func not(x tree) tree                    { return expr.Not{X: x} }
func neg(x tree) tree                    { return expr.Neg{X: x} }
func bin(l tree, op string, r tree) tree { return expr.Bin{Op: op, L: l, R: r} }
func set(name string, to tree) Set       { return Set{Name: name, To: to} }
func pos(line, col int) api.Pos          { return api.Pos{Line: line, Col: col} }

var reserved = strings.Fields("chart var state all end do undo at retries on if go set")

// Other types: one that is like a Lit, one that promotes a Lit's method, and one that can't be asked.
type likeLit struct{ N int64 }
type holdsLit struct{ expr.Lit }
type loud struct{}

func (likeLit) Kind() int { return 1 }
func (*loud) Kind() int   { panic("asked") }

// others is something of each other type, pointers to the five types too.
func others() []tree {
	return []tree{likeLit{1}, holdsLit{}, &loud{}, (*loud)(nil), &expr.Lit{N: 1}, (*expr.Lit)(nil), &expr.Ref{Name: "a"}, &expr.Not{X: lit(1)}, &expr.Neg{X: lit(1)}, &expr.Bin{Op: "+", L: lit(1), R: lit(2)}, (*expr.Bin)(nil)}
}

// sketch is the lines of a chart, by the chapter's words, whatever it is, with expressions as they are told by textOf.
func sketch(c Chart, textOf func(tree) string) string {
	lines := fmt.Sprintf("chart %s %d {\n", c.Name, c.Version)
	for _, v := range c.Vars {
		lines += fmt.Sprintf("\tvar %s = %d\n", v.Name, v.N)
	}
	for _, s := range c.States {
		lines += "\t" + strings.Join(stateLines(s, textOf), "\n\t") + "\n"
	}
	return lines + "}\n"
}

// stateLines is the lines of a state that lies in nothing.
func stateLines(s State, textOf func(tree) string) []string {
	var inside []string
	if s.All {
		inside = append(inside, "all")
	}
	if s.End {
		inside = append(inside, "end")
	}
	if s.Do != "" || s.Undo != "" || s.Where != 0 || s.Retries != 0 {
		inside = append(inside, fmt.Sprintf("do %s undo %s at %d retries %d", s.Do, s.Undo, s.Where, s.Retries))
	}
	for _, o := range s.Ons {
		line := "on " + o.Event
		if o.Guard != nil {
			line += " if " + textOf(o.Guard)
		}
		line += " go " + o.Target
		for _, x := range o.Sets {
			line += " set " + x.Name + " = " + textOf(x.To)
		}
		inside = append(inside, line)
	}
	for _, x := range s.Inner {
		inside = append(inside, stateLines(x, textOf)...)
	}
	lines := []string{"state " + s.Name + " {"}
	for _, line := range inside {
		lines = append(lines, "\t"+line)
	}
	return append(lines, "}")
}

// plainly is layer 5's text: "?", which is no word, if there is none.
func plainly(e tree) string {
	s, no := guard.Print(e)
	if no != api.OK {
		return "?"
	}
	return s
}

// loosely is a text with brackets around all of it, whatever its names and operators are: "?" of what is no expression.
func loosely(e tree) string {
	switch x := e.(type) {
	case expr.Lit:
		return "(" + strconv.FormatInt(x.N, 10) + ")"
	case expr.Ref:
		return "(" + x.Name + ")"
	case expr.Not:
		return "(!" + loosely(x.X) + ")"
	case expr.Neg:
		return "(-" + loosely(x.X) + ")"
	case expr.Bin:
		return "(" + loosely(x.L) + " " + x.Op + " " + loosely(x.R) + ")"
	}
	return "?"
}

// isRead tells if c, which must be small, is what layer 6 reads of some text: if it is at all, it is of its sketch.
func isRead(t *testing.T, c Chart) bool {
	t.Helper()
	got, _, no := chart.Read(sketch(c, loosely))
	if no == api.ErrLong {
		t.Fatal("not small")
	}
	return no == api.OK && chart.Same(chart.Strip(got), chart.Strip(c))
}

// wantText fails unless c is formed and has that text, and the text is read and is c, but for places.
func wantText(t *testing.T, c Chart, want string) {
	t.Helper()
	s, no := Print(c)
	if s != want || no != api.OK || !Formed(c) {
		t.Errorf("Print(%.300q) = %.300q %v, want %.300q", fmt.Sprint(c), s, no, want)
		return
	}
	back, at, no := chart.Read(s)
	if no != api.OK || !chart.Same(chart.Strip(back), chart.Strip(c)) {
		t.Errorf("%.300q is read as %v %v %v", s, back, at, no)
	}
	if again, no := Print(back); again != s || no != api.OK {
		t.Errorf("%.300q is printed again as %.300q %v", s, again, no)
	}
}

// wantRefused fails unless c isn't formed, and isn't printed.
func wantRefused(t *testing.T, why any, c Chart) {
	t.Helper()
	if s, no := Print(c); s != "" || no != api.ErrArg || Formed(c) {
		t.Errorf("%v: %.300q %v %v", why, s, no, Formed(c))
	}
}

// wantLong fails unless c is formed and its text is too long.
func wantLong(t *testing.T, why any, c Chart) {
	t.Helper()
	if s, no := Print(c); s != "" || no != api.ErrLong || !Formed(c) {
		t.Errorf("%v: %d bytes, %v %v", why, len(s), no, Formed(c))
	}
}

// wantAsRead fails unless c is formed just if it is read of some text, and is printed just then.
func wantAsRead(t *testing.T, why any, c Chart) bool {
	t.Helper()
	if !isRead(t, c) {
		wantRefused(t, why, c)
		return false
	}
	wantText(t, c, sketch(c, plainly))
	return true
}

// withState is a chart of that state, between others.
func withState(s State) Chart {
	good := State{Name: "good", End: true}
	return Chart{Name: "c", Version: 1, States: []State{good, s, good}}
}

// withOn is a chart of that on, between others, in a state that lies in another one.
func withOn(o On) Chart {
	good := On{Event: "good", Target: "a"}
	return withState(State{Name: "a", All: true, Inner: []State{{Name: "b", Ons: []On{good, o, good}}}})
}

// withExpression is charts with that expression at each place where one may stand.
func withExpression(e tree) []Chart {
	good := Set{Name: "n", To: lit(1)}
	return []Chart{
		withOn(On{Event: "e", Guard: e, Target: "t"}),
		withOn(On{Event: "e", Target: "t", Sets: []Set{set("n", e)}}),
		withOn(On{Event: "e", Guard: lit(0), Target: "t", Sets: []Set{good, set("n", e), good}}),
	}
}

// full is a chart that has all that there is, at least twice, and places everywhere. What it answers shares nothing with what it answered.
func full() Chart {
	place := 0
	at := func() api.Pos {
		place += 2
		return pos(place, place+1)
	}
	guarded := func(x string) On {
		return On{Event: "e" + x, Guard: bin(not(ref("r"+x)), "<", neg(lit(3))), Target: "t" + x, Sets: []Set{set("n"+x, bin(ref("k"+x), "+", lit(1))), set("m"+x, lit(2))}, At: at()}
	}
	plain := func(x string) On { return On{Event: "p" + x, Target: "q" + x, At: at()} }
	step := func(x string) State {
		return State{Name: "s" + x, At: at(), Do: "do" + x, Undo: "un" + x, Where: 3, Retries: 2, Ons: []On{guarded(x), plain(x)}}
	}
	inner := State{Name: "inner", At: at(), All: true, Ons: []On{plain("i"), guarded("j")}, Inner: []State{step("f"), step("g")}}
	return Chart{
		Name: "full", Version: 7, At: at(),
		Vars:   []Var{{Name: "nn", N: 4, At: at()}, {Name: "kk", N: -4, At: at()}},
		States: []State{step("a"), {Name: "outer", At: at(), Inner: []State{inner, step("h")}}, {Name: "zz", At: at(), End: true}},
	}
}

// eachThing visits each thing that a chart has: its fields, its lists, and their members.
func eachThing(path string, v reflect.Value, visit func(path string, v reflect.Value)) {
	switch v.Kind() {
	case reflect.Struct:
		for i := range v.NumField() {
			eachThing(path+"."+v.Type().Field(i).Name, v.Field(i), visit)
		}
		return
	case reflect.Slice:
		for i := range v.Len() {
			eachThing(path+"["+strconv.Itoa(i)+"]", v.Index(i), visit)
		}
	}
	visit(path, v)
}

// eachOf visits each thing of c of that kind with that end of its path, and tells how many there are.
func eachOf(c *Chart, kind reflect.Kind, suffix string, visit func(path string, v reflect.Value)) int {
	count := 0
	eachThing("c", reflect.ValueOf(c).Elem(), func(path string, v reflect.Value) {
		if v.Kind() == kind && strings.HasSuffix(path, suffix) {
			count++
			visit(path, v)
		}
	})
	return count
}

// P7.1: the chapter's example.
func TestPrintExample(t *testing.T) {
	c := Chart{Name: "c", States: []State{{Name: "a", End: true}}}
	wantText(t, c, "chart c 0 {\n\tstate a {\n\t\tend\n\t}\n}\n")
}

// P7.1: all that a chart has, with the tabs ahead of each line.
func TestPrintAll(t *testing.T) {
	c := Chart{
		Name: "pay", Version: 12, At: pos(3, 4),
		Vars: []Var{{Name: "n", N: 0}, {Name: "k", N: -5, At: pos(1, 1)}, {Name: "яблоко", N: 1000000000}},
		States: []State{
			{Name: "a", Do: "take", Undo: "give", Where: 3, Retries: 2, Ons: []On{
				{Event: "done", Guard: bin(bin(ref("n"), "<", lit(3)), "&&", not(bin(ref("k"), "+", bin(lit(1), "*", ref("n"))))), Target: "b", Sets: []Set{set("n", bin(ref("n"), "+", lit(1))), set("k", neg(ref("n")))}},
				{Event: "stop", Target: "z", At: pos(7, 7)},
			}},
			{Name: "b", All: true, At: pos(9, 9), Ons: []On{{Event: "e", Guard: ref("n"), Target: "z"}}, Inner: []State{
				{Name: "c", Ons: []On{{Event: "f", Target: "f", Sets: []Set{set("n", lit(0))}}}, Inner: []State{
					{Name: "d", Do: "x", Undo: "y", Where: 1, Ons: []On{{Event: "done", Target: "e"}}},
					{Name: "e", End: true},
				}},
				{Name: "f", Do: "p", Undo: "q", Where: 1000000000, Retries: 1000000000},
			}},
			{Name: "z", End: true},
			{Name: "y"},
		},
	}
	wantText(t, c, `chart pay 12 {
	var n = 0
	var k = -5
	var яблоко = 1000000000
	state a {
		do take undo give at 3 retries 2
		on done if n < 3 && !(k + 1 * n) go b set n = n + 1 set k = -n
		on stop go z
	}
	state b {
		all
		on e if n go z
		state c {
			on f go f set n = 0
			state d {
				do x undo y at 1 retries 0
				on done go e
			}
			state e {
				end
			}
		}
		state f {
			do p undo q at 1000000000 retries 1000000000
		}
	}
	state z {
		end
	}
	state y {
	}
}
`)
}

// P7.1: charts of no variables, no states, and neither; versions and numbers at their edges.
func TestPrintCharts(t *testing.T) {
	for want, c := range map[string]Chart{
		"chart a 0 {\n}\n":                                      {Name: "a"},
		"chart я 1 {\n}\n":                                      {Name: "я", Version: 1},
		"chart a 1000000000 {\n}\n":                             {Name: "a", Version: api.MaxInt},
		"chart a 10 {\n\tvar x = 0\n}\n":                        {Name: "a", Version: 10, Vars: []Var{{Name: "x"}}},
		"chart a 0 {\n\tvar x = 1\n\tvar x = -1\n}\n":           {Name: "a", Vars: []Var{{Name: "x", N: 1}, {Name: "x", N: -1}}},
		"chart a 0 {\n\tstate b {\n\t}\n}\n":                    {Name: "a", States: []State{{Name: "b"}}},
		"chart a 0 {\n\tstate b {\n\t}\n\tstate b {\n\t}\n}\n":  {Name: "a", States: []State{{Name: "b"}, {Name: "b"}}},
		"chart a 0 {\n\tvar a = -7\n\tstate a {\n\t}\n}\n":      {Name: "a", Vars: []Var{{Name: "a", N: -7}}, States: []State{{Name: "a"}}},
		"chart A_1 0 {\n\tvar z = 1\n\tvar y = 2\n}\n":          {Name: "A_1", Vars: []Var{{Name: "z", N: 1}, {Name: "y", N: 2}}},
		"chart a 0 {\n\tstate z {\n\t}\n\tstate yy {\n\t}\n}\n": {Name: "a", States: []State{{Name: "z"}, {Name: "yy"}}},
	} {
		wantText(t, c, want)
	}
	for n, want := range map[int64]string{0: "0", 1: "1", -1: "-1", 9: "9", 10: "10", -10: "-10", 123456789: "123456789", -987654321: "-987654321", 999999999: "999999999", api.MaxInt: "1000000000", -api.MaxInt: "-1000000000"} {
		wantText(t, Chart{Name: "c", Vars: []Var{{Name: "a", N: 3}, {Name: "v", N: n}}}, "chart c 0 {\n\tvar a = 3\n\tvar v = "+want+"\n}\n")
		if n >= 0 {
			wantText(t, Chart{Name: "c", Version: int(n)}, "chart c "+want+" {\n}\n")
		}
	}
}

// P7.1: states of each kind, with ons and with states that lie in them, or without.
func TestPrintStates(t *testing.T) {
	ons := []On{{Event: "f", Target: "x"}, {Event: "e", Target: "a"}}
	inner := []State{{Name: "z", End: true}, {Name: "b"}}
	const onLines = "\t\ton f go x\n\t\ton e go a\n"
	const innerLines = "\t\tstate z {\n\t\t\tend\n\t\t}\n\t\tstate b {\n\t\t}\n"
	for line, s := range map[string]State{
		"":                                 {},
		"\t\tall\n":                        {All: true},
		"\t\tend\n":                        {End: true},
		"\t\tdo p undo q at 0 retries 0\n": {Do: "p", Undo: "q"},
		"\t\tdo p undo p at 3 retries 5\n": {Do: "p", Undo: "p", Where: 3, Retries: 5},
		"\t\tdo q undo p at 1000000000 retries 0\n": {Do: "q", Undo: "p", Where: api.MaxInt},
		"\t\tdo q undo p at 0 retries 1000000000\n": {Do: "q", Undo: "p", Retries: api.MaxInt},
	} {
		s.Name = "a"
		wantText(t, Chart{Name: "c", States: []State{s}}, "chart c 0 {\n\tstate a {\n"+line+"\t}\n}\n")
		s.Ons = ons
		wantText(t, Chart{Name: "c", States: []State{s}}, "chart c 0 {\n\tstate a {\n"+line+onLines+"\t}\n}\n")
		s.Inner = inner
		wantText(t, Chart{Name: "c", States: []State{s}}, "chart c 0 {\n\tstate a {\n"+line+onLines+innerLines+"\t}\n}\n")
		s.Ons = nil
		wantText(t, Chart{Name: "c", States: []State{s}}, "chart c 0 {\n\tstate a {\n"+line+innerLines+"\t}\n}\n")
	}
}

// P7.1: ons with and without a Guard, with no set and with several.
func TestPrintOns(t *testing.T) {
	x, y := ref("x"), ref("y")
	for line, o := range map[string]On{
		"on e go b":                                                   {},
		"on e if x go b":                                              {Guard: x},
		"on e if 0 go b":                                              {Guard: lit(0)},
		"on e if x < 3 && !y go b":                                    {Guard: bin(bin(x, "<", lit(3)), "&&", not(y))},
		"on e if x - (y - 1) go b":                                    {Guard: bin(x, "-", bin(y, "-", lit(1)))},
		"on e go b set x = 1":                                         {Sets: []Set{set("x", lit(1))}},
		"on e go b set x = -1":                                        {Sets: []Set{set("x", neg(lit(1)))}},
		"on e go b set x = !(x < y) set y = x":                        {Sets: []Set{set("x", not(bin(x, "<", y))), set("y", x)}},
		"on e go b set x = x == y set x = x":                          {Sets: []Set{set("x", bin(x, "==", y)), set("x", x)}},
		"on e if y go b set y = (x + y) * -x":                         {Guard: y, Sets: []Set{set("y", bin(bin(x, "+", y), "*", neg(x)))}},
		"on e if x || y go b set a = 1 set b = --2":                   {Guard: bin(x, "||", y), Sets: []Set{set("a", lit(1)), set("b", neg(neg(lit(2))))}},
		"on e go b set a = 1 set b = 2 set c = 3 set d = 4 set e = 5": {Sets: []Set{set("a", lit(1)), set("b", lit(2)), set("c", lit(3)), set("d", lit(4)), set("e", lit(5))}},
		"on e if x go b" + strings.Repeat(" set x = x", 100):          {Guard: x, Sets: slices.Repeat([]Set{set("x", x)}, 100)},
	} {
		o.Event, o.Target = "e", "b"
		wantText(t, Chart{Name: "c", States: []State{{Name: "a", Ons: []On{o}}}}, "chart c 0 {\n\tstate a {\n\t\t"+line+"\n\t}\n}\n")
		last := On{Event: "z", Target: "a"}
		wantText(t, Chart{Name: "c", States: []State{{Name: "a", End: true, Inner: []State{{Name: "i", Ons: []On{o, last, o}}}}}},
			"chart c 0 {\n\tstate a {\n\t\tend\n\t\tstate i {\n\t\t\t"+line+"\n\t\t\ton z go a\n\t\t\t"+line+"\n\t\t}\n\t}\n}\n")
	}
}

// rightNames and wrongNames are such as may, and mayn't, stand where a NAME does.
func rightNames() []string {
	return []string{"a", "Z", "а", "я", "done", "State", "IF", "ifs", "on_", "do1", "x__0", strings.Repeat("a", api.MaxName), strings.Repeat("я", api.MaxName), "z" + strings.Repeat("_", api.MaxName-1)}
}

func wrongNames() []string {
	list := []string{"", " ", "1", "_", "_a", "1a", "a b", " a", "a ", "a\n", "\ta", "a#", "#a", "a-b", "-a", "a.b", "Я", "ё", "é", "aЯ", "世", "{", "}", "a{", "a }", "=", "x = 1", "x go y", "a\x00", "\xff", "a\xff", "\xd1", "я\xd1", "a\u2028", "\ufeffa", "\ufffd", strings.Repeat("a", api.MaxName+1), strings.Repeat("я", api.MaxName+1), strings.Repeat("a", 100000)}
	return append(list, reserved...)
}

// P7.1: names that are none, or are reserved, at each place where a NAME stands; and those that are just right.
func TestNames(t *testing.T) {
	c := full()
	wantText(t, c, sketch(c, plainly))
	count := eachOf(&c, reflect.String, "", func(path string, v reflect.Value) {
		was := v.String()
		if was == "" {
			return
		}
		for _, name := range wrongNames() {
			v.SetString(name)
			wantRefused(t, path+" "+name, c)
		}
		for _, name := range rightNames() {
			v.SetString(name)
			wantText(t, c, sketch(c, plainly))
		}
		v.SetString(was)
	})
	if count < 50 {
		t.Error(count)
	}
	wantText(t, c, sketch(full(), plainly))
}

// P7.1: reserved names, and those that are none, in expressions.
func TestNamesInExpressions(t *testing.T) {
	for _, wrap := range []func(tree) tree{func(e tree) tree { return e }, not, neg, func(e tree) tree { return bin(lit(1), "+", e) }, func(e tree) tree { return bin(not(e), "&&", ref("a")) }} {
		for _, name := range wrongNames() {
			for _, c := range withExpression(wrap(ref(name))) {
				wantRefused(t, name, c)
			}
		}
		for _, name := range rightNames() {
			for _, c := range withExpression(wrap(ref(name))) {
				wantText(t, c, sketch(c, plainly))
			}
		}
	}
}

// P7.1: numbers just in range, and just out of it, at each place.
func TestNumbers(t *testing.T) {
	c := full()
	ask := func(n any, right, wrong []int64) { askNumber(t, c, reflect.ValueOf(n).Elem(), right, wrong) }
	right := []int64{0, 1, 2, 5, 6, 999999999, api.MaxInt}
	wrong := []int64{-1, -2, -api.MaxInt, api.MaxInt + 1, 1 << 31, 1 << 32, 1<<32 + 1, 1 << 40, math.MaxInt64, math.MinInt64, math.MinInt32, math.MinInt64 + 1}
	for _, s := range []*State{&c.States[0], &c.States[1].Inner[1], &c.States[1].Inner[0].Inner[0], &c.States[1].Inner[0].Inner[1]} {
		ask(&s.Where, right, wrong)
		ask(&s.Retries, right, wrong)
	}
	right = append(right, -1, -2, -999999999, -api.MaxInt)
	wrong = []int64{api.MaxInt + 1, -api.MaxInt - 1, 1 << 31, -1 << 31, 1 << 32, -1 << 32, 1<<32 + 1, math.MaxInt64, math.MinInt64, math.MinInt64 + 1}
	ask(&c.Vars[0].N, right, wrong)
	ask(&c.Vars[1].N, right, wrong)
	for _, n := range []int{-1, -api.MaxInt, api.MaxInt + 1, 1 << 32, math.MaxInt, math.MinInt} {
		wantRefused(t, n, Chart{Name: "c", Version: n})
		for _, e := range []tree{lit(int64(n)), neg(lit(int64(n))), bin(ref("a"), "<", lit(int64(n)))} {
			for _, c := range withExpression(e) {
				wantRefused(t, n, c)
			}
		}
	}
}

// askNumber asks for these numbers in v's stead, which is in a list of c.
func askNumber(t *testing.T, c Chart, v reflect.Value, right, wrong []int64) {
	t.Helper()
	was := v.Int()
	for _, n := range right {
		v.SetInt(n)
		wantText(t, c, sketch(c, plainly))
	}
	for _, n := range wrong {
		v.SetInt(n)
		wantRefused(t, n, c)
	}
	v.SetInt(was)
}

// P7.1: a state that is two kinds at once, or half a step: all that may stand together, and all that mayn't.
func TestKinds(t *testing.T) {
	names := []string{"", "x", "yy", "if", "1"}
	numbers := []int{0, 1, 7, -1, api.MaxInt, api.MaxInt + 1}
	formed := 0
	for i := range 4 * len(names) * len(names) * len(numbers) * len(numbers) {
		digit := func(n int) int {
			d := i % n
			i /= n
			return d
		}
		s := State{Name: "a", All: digit(2) == 1, End: digit(2) == 1, Do: names[digit(len(names))], Undo: names[digit(len(names))], Where: numbers[digit(len(numbers))], Retries: numbers[digit(len(numbers))]}
		for _, c := range []Chart{withState(s), withState(State{Name: "o", End: true, Inner: []State{s}})} {
			if wantAsRead(t, s, c) {
				formed++
			}
		}
	}
	// Of each chart: none, all, end, and the steps of two names, twice, and four numbers, twice.
	if formed != 2*(3+2*2*4*4) {
		t.Error(formed)
	}
	for _, s := range []State{{All: true, End: true}, {All: true, Do: "x", Undo: "y"}, {End: true, Do: "x", Undo: "y"}, {Do: "x"}, {Undo: "y"}, {Where: 1}, {Retries: 1}, {Do: "x", Where: 1, Retries: 1}, {All: true, Where: 1}, {End: true, Retries: 1}, {All: true, Undo: "y"}, {Do: "x", Undo: "y", Where: -1}} {
		s.Name = "a"
		wantRefused(t, s, withState(s))
	}
}

// nested is a state that has states in it, that many deep in one another, the innermost one as given.
func nested(deep int, innermost State) State {
	for range deep {
		innermost = State{Name: "s", Inner: []State{innermost}}
	}
	return innermost
}

// P7.1: states that lie just as deep as they may, with as many tabs, and one too deep.
func TestDeep(t *testing.T) {
	for deep := range api.MaxDeep {
		want := "chart c 0 {\n"
		for i := range deep {
			want += strings.Repeat("\t", i+1) + "state s {\n"
		}
		tabs := strings.Repeat("\t", deep+1)
		want += tabs + "state x {\n" + tabs + "\tdo p undo q at 1 retries 2\n" + tabs + "\ton e go x\n" + tabs + "}\n"
		for i := range deep {
			want += strings.Repeat("\t", deep-i) + "}\n"
		}
		innermost := State{Name: "x", Do: "p", Undo: "q", Where: 1, Retries: 2, Ons: []On{{Event: "e", Target: "x"}}}
		wantText(t, Chart{Name: "c", States: []State{nested(deep, innermost)}}, want+"}\n")
	}
	for deep := api.MaxDeep; deep < 12; deep++ {
		wantRefused(t, deep, Chart{Name: "c", States: []State{nested(deep, State{Name: "x"})}})
		wantRefused(t, deep, withState(nested(deep, State{Name: "x", End: true})))
	}
	// One alone, beside many that aren't too deep, at each depth.
	most := nested(api.MaxDeep-1, State{Name: "x"})
	wantText(t, Chart{Name: "c", States: slices.Repeat([]State{most}, 20)}, sketch(Chart{Name: "c", States: slices.Repeat([]State{most}, 20)}, plainly))
	for deep := range api.MaxDeep {
		bad := nested(api.MaxDeep-deep, State{Name: "x"})
		side := nested(api.MaxDeep-deep-1, State{Name: "x"})
		wantRefused(t, deep, Chart{Name: "c", States: []State{most, nested(deep, bad)}})
		if deep == 0 {
			continue
		}
		beside := func(s State) Chart {
			return Chart{Name: "c", States: []State{most, nested(deep-1, State{Name: "o", Inner: []State{side, s, side}})}}
		}
		wantRefused(t, deep, beside(bad))
		wantText(t, beside(side), sketch(beside(side), plainly))
	}
}

// flat is an expression of n parts that lies as flat as it can.
func flat(n int) tree {
	switch n {
	case 1:
		return ref("x")
	case 2:
		return neg(lit(1))
	}
	left := (n - 1) / 2
	return bin(flat(left), "+", flat(n-1-left))
}

// P7.1: expressions that aren't formed, or that have no text, and what is just formed.
func TestExpressions(t *testing.T) {
	bad := append(others(), expr.Not{}, expr.Neg{}, expr.Bin{}, bin(lit(1), "+", nil), bin(nil, "+", lit(1)), bin(lit(1), "", lit(1)), bin(lit(1), ">", lit(1)), bin(lit(1), "=", lit(1)), bin(lit(1), "! =", lit(1)), bin(lit(1), "+ 1 +", lit(1)), not(&loud{}), bin(likeLit{1}, "+", lit(1)), flat(41), flat(42), flat(1000))
	good := []tree{lit(0), lit(api.MaxInt), ref("x"), flat(39), flat(40)}
	for _, wrap := range []func(tree) tree{not, neg, func(e tree) tree { return bin(e, "*", lit(1)) }, func(e tree) tree { return bin(lit(1), "&&", e) }} {
		e := ref("x")
		for range api.MaxNest - 1 {
			e = wrap(e)
		}
		good = append(good, e)
		bad = append(bad, wrap(e), wrap(wrap(e)))
	}
	for _, op := range strings.Fields("+ - * < <= == != && ||") {
		good = append(good, bin(ref("x"), op, lit(1)), bin(bin(ref("x"), op, ref("y")), op, not(neg(bin(ref("x"), op, ref("y"))))))
		bad = append(bad, bin(ref("x"), op+" ", lit(1)), bin(ref("x"), op+op, lit(1)), bin(ref("x"), op, ref("go")))
	}
	for _, e := range good {
		if !expr.Formed(e) {
			t.Fatal(e)
		}
		for _, c := range withExpression(e) {
			wantText(t, c, sketch(c, plainly))
		}
	}
	for _, e := range bad {
		for _, c := range withExpression(e) {
			wantRefused(t, e, c)
		}
	}
	// A Guard of nil is none; a set has an expression.
	none := withExpression(nil)
	wantText(t, none[0], sketch(none[0], plainly))
	wantRefused(t, "no expression", none[1])
	wantRefused(t, "no expression", none[2])
}

// instead is what could stand in v's stead.
func instead(v reflect.Value) []reflect.Value {
	var list []reflect.Value
	add := func(x any) { list = append(list, reflect.ValueOf(x).Convert(v.Type())) }
	switch v.Kind() {
	case reflect.String:
		for _, s := range []string{"", "x", v.String() + "x", v.String() + " ", "if", "я", "Я", "1"} {
			add(s)
		}
	case reflect.Int, reflect.Int64:
		for _, n := range []int64{0, 1, -1, v.Int() + 1, -v.Int(), api.MaxInt, api.MaxInt + 1, -api.MaxInt, -api.MaxInt - 1, math.MinInt64} {
			add(n)
		}
	case reflect.Bool:
		add(!v.Bool())
	case reflect.Interface:
		for _, e := range append(others(), nil, lit(9), lit(-9), ref("r"), ref("all"), not(ref("r")), expr.Not{}, flat(40), flat(41), bin(ref("a"), "?", ref("b"))) {
			list = append(list, reflect.ValueOf(&e).Elem())
		}
	case reflect.Slice:
		longer := reflect.MakeSlice(v.Type(), v.Len()+1, v.Len()+1)
		reflect.Copy(longer, v)
		list = append(list, longer, reflect.Zero(v.Type()))
		if v.Len() > 0 {
			twice := reflect.AppendSlice(reflect.MakeSlice(v.Type(), 0, 0), v)
			list = append(list, reflect.AppendSlice(twice, v), v.Slice(1, v.Len()))
		}
	}
	return list
}

// P7.1: each thing that a chart has, changed: it is formed just if it is read of some text.
func TestEachThing(t *testing.T) {
	c := full()
	formed, refused := 0, 0
	eachThing("c", reflect.ValueOf(&c).Elem(), func(path string, v reflect.Value) {
		was := reflect.New(v.Type()).Elem()
		was.Set(v)
		for _, x := range instead(v) {
			v.Set(x)
			if wantAsRead(t, fmt.Sprint(path, " ", x), c) {
				formed++
			} else {
				refused++
			}
			v.Set(was)
		}
	})
	if formed < 700 || refused < 700 {
		t.Error(formed, refused)
	}
}

// P7.1: places count for nothing, whatever they are.
func TestPlaces(t *testing.T) {
	c := full()
	want := sketch(c, plainly)
	places := 0
	for _, n := range []int64{0, 1, -1, math.MaxInt64, math.MinInt64} {
		for _, suffix := range []string{".At.Line", ".At.Col"} {
			places += eachOf(&c, reflect.Int, suffix, func(_ string, v reflect.Value) {
				v.SetInt(n)
				if s, no := Print(c); s != want || no != api.OK || !Formed(c) {
					t.Error(n, no)
				}
			})
		}
	}
	if places < 100 {
		t.Error(places)
	}
	wantText(t, chart.Strip(c), want)
}

// wordsOf is how many words a text of any length has.
func wordsOf(t *testing.T, s string) int {
	t.Helper()
	count := 0
	for line := range strings.Lines(s) {
		// Beyond a line's limit there are pieces of it: no word has a blank in it.
		for part := range strings.FieldsSeq(line) {
			words, at, no := glyph.Words(part)
			if no != api.OK {
				t.Fatal(part, at, no)
			}
			count += len(words)
		}
	}
	return count
}

// wantBySize fails unless c, which is formed, is printed just if its text isn't too long.
func wantBySize(t *testing.T, c Chart, bytes, words int) {
	t.Helper()
	s := sketch(c, plainly)
	if len(s) != bytes || wordsOf(t, s) != words {
		t.Fatalf("%d bytes and %d words, not %d and %d", len(s), wordsOf(t, s), bytes, words)
	}
	if bytes > api.MaxSource || words > api.MaxWords {
		wantLong(t, fmt.Sprint(bytes, words), c)
		return
	}
	wantText(t, c, s)
}

// ofBytes is a chart whose text has that many bytes, and few words, made so by names of that letter.
func ofBytes(n int, letter string) Chart {
	c := Chart{Name: "a"}
	// Beside names' bytes, but for the chart's, a chart has 14, and a variable 10.
	left := n - 14
	whole := 10 + api.MaxName*len(letter)
	for left >= 2*whole {
		c.Vars = append(c.Vars, Var{Name: strings.Repeat(letter, api.MaxName)})
		left -= whole
	}
	for left > 0 {
		// What is left is parted so that no name is empty, of letters of one byte.
		size := left
		if left > 10+api.MaxName {
			size = min(left/2, 10+api.MaxName)
		}
		c.Vars = append(c.Vars, Var{Name: strings.Repeat("b", size-10)})
		left -= size
	}
	return c
}

// P7.1: charts whose text has just as many bytes as it may, and just too many: bytes, not runes.
func TestLongBytes(t *testing.T) {
	for _, letter := range []string{"a", "я"} {
		for n := api.MaxSource - 70; n < api.MaxSource+70; n++ {
			c := ofBytes(n, letter)
			wantBySize(t, c, n, 5+4*len(c.Vars))
		}
		for _, n := range []int{api.MaxSource * 2, api.MaxSource * 10, 1000000} {
			c := ofBytes(n, letter)
			wantLong(t, n, c)
		}
	}
	// One byte more or less, in each name and number that there is in a text.
	c := full()
	c.Vars = append(c.Vars, ofBytes(14+api.MaxSource-len(sketch(c, plainly)), "a").Vars...)
	wantBySize(t, c, api.MaxSource, wordsOf(t, sketch(c, plainly)))
	names := 0
	eachOf(&c, reflect.String, "", func(path string, v reflect.Value) {
		was := v.String()
		if was == "" || len(was) == api.MaxName {
			return
		}
		names++
		v.SetString(was + "x")
		wantLong(t, path, c)
		v.SetString(was[:1])
		wantText(t, c, sketch(c, plainly))
		v.SetString(was)
	})
	if names < 50 {
		t.Error(names)
	}
	for _, n := range []*int{&c.Version, &c.States[0].Where, &c.States[0].Retries, &c.States[1].Inner[1].Where} {
		was := *n
		*n = 10
		wantLong(t, "a digit more", c)
		*n = was
	}
	c.Vars[0].N = -4
	wantLong(t, "a number below 0", c)
	c.Vars[0].N = 4
	c.States[0].Ons[1].Guard = ref("x")
	wantLong(t, "a Guard", c)
}

// dense is a chart of that many sets, with many words in few bytes, and some more variables.
func dense(sets, vars int, n int64) Chart {
	e := ref("n")
	for range api.MaxNest - 1 {
		e = neg(e)
	}
	c := Chart{Name: "c", States: []State{{Name: "a", Ons: []On{{Event: "e", Target: "b", Sets: slices.Repeat([]Set{set("n", e)}, sets)}}}}}
	for range vars {
		c.Vars = append(c.Vars, Var{Name: "n", N: n})
	}
	return c
}

// P7.1: charts whose text has just as many words as it may, and just too many, and few bytes; the - ahead of a number is one.
func TestLongWords(t *testing.T) {
	for sets := 192; sets < 202; sets++ {
		for vars := range 8 {
			// A chart, a state and an on with nothing in them have 13 words, a set 3 and its 12.
			wantBySize(t, dense(sets, vars, 1), 40+21*sets+11*vars, 13+15*sets+4*vars)
			wantBySize(t, dense(sets, vars, -1), 40+21*sets+12*vars, 13+15*sets+5*vars)
		}
	}
	// 3000 and 3001 by one word: the - of a variable, of an expression, and a word of each kind beside.
	c := dense(197, 8, 1)
	wantBySize(t, c, 40+21*197+11*8, 3000)
	below := c
	below.Vars = slices.Clone(c.Vars)
	below.Vars[7].N = -1
	wantBySize(t, below, 41+21*197+11*8, 3001)
	ended := c
	ended.States = []State{c.States[0]}
	ended.States[0].End = true
	wantBySize(t, ended, 46+21*197+11*8, 3001)
	ended.States[0].End, ended.States[0].All = false, true
	wantBySize(t, ended, 46+21*197+11*8, 3001)
	for _, n := range []int{750, 1000, 5000, 100000} {
		wantLong(t, n, Chart{Name: "a", Vars: slices.Repeat([]Var{{Name: "n"}}, n)})
		wantLong(t, n, Chart{Name: "a", States: slices.Repeat([]State{{Name: "n", End: true}}, n)})
	}
	wantBySize(t, Chart{Name: "a", States: slices.Repeat([]State{{Name: "n"}}, 748)}, 14+14*748, 5+4*748)
	wantBySize(t, Chart{Name: "a", States: slices.Repeat([]State{{Name: "n"}}, 749)}, 14+14*749, 5+4*749)
}

// R6: what isn't formed is told ahead of what is too long.
func TestArgAheadOfLong(t *testing.T) {
	long := ofBytes(api.MaxSource+1, "a")
	words := dense(500, 8, 1)
	for _, c := range []Chart{long, words} {
		wantLong(t, "long", c)
		unnamed := c
		unnamed.Name = ""
		wantRefused(t, "name", unnamed)
		last := c
		last.States = append(slices.Clone(c.States), State{Name: "z", All: true, End: true})
		wantRefused(t, "last", last)
		deep := c
		deep.States = append(slices.Clone(c.States), nested(api.MaxDeep, State{Name: "x"}))
		wantRefused(t, "deep", deep)
		without := c
		without.States = append(slices.Clone(c.States), State{Name: "z", Ons: []On{{Event: "e", Target: "t", Sets: []Set{{Name: "n"}}}}})
		wantRefused(t, "set", without)
	}
}

// dice are numbers that aren't alike, the same ones each time.
type dice uint32

func (d *dice) upTo(n int) int {
	*d = *d*1664525 + 1013904223
	return int(*d>>8) % n
}

// some is a list of up to n members, each made anew.
func some[T any](d *dice, n int, one func() T) []T {
	var list []T
	for range d.upTo(n + 1) {
		list = append(list, one())
	}
	return list
}

func (d *dice) name() string {
	names := []string{"a", "b", "яблоко", "Done", "done", "x_1", "я", "states", "iff", "IF", strings.Repeat("ж", api.MaxName)}
	return names[d.upTo(len(names))]
}

func (d *dice) number() int {
	return []int{0, 1, 2, 3, 5, 10, 99, 123456, api.MaxInt}[d.upTo(9)]
}

func (d *dice) place() api.Pos {
	return pos(d.upTo(50), d.upTo(50))
}

func (d *dice) expression(room int) tree {
	if room == 0 || d.upTo(4) == 0 {
		return []tree{lit(0), lit(7), lit(api.MaxInt), ref("n"), ref("я"), ref("done")}[d.upTo(6)]
	}
	switch d.upTo(6) {
	case 0:
		return not(d.expression(room - 1))
	case 1:
		return neg(d.expression(room - 1))
	}
	l, r := d.expression(room-1), d.expression(room-1)
	return bin(l, strings.Fields("|| && < <= == != + - *")[d.upTo(9)], r)
}

func (d *dice) on() On {
	o := On{Event: d.name(), Target: d.name(), At: d.place()}
	if d.upTo(2) == 0 {
		o.Guard = d.expression(d.upTo(5))
	}
	o.Sets = some(d, 2, func() Set { return Set{Name: d.name(), To: d.expression(d.upTo(5))} })
	return o
}

func (d *dice) state(room int) State {
	s := State{Name: d.name(), At: d.place()}
	switch d.upTo(4) {
	case 0:
		s.All = true
	case 1:
		s.End = true
	case 2:
		s.Do, s.Undo, s.Where, s.Retries = d.name(), d.name(), d.number(), d.number()
	}
	s.Ons = some(d, 2, d.on)
	if room > 1 {
		s.Inner = some(d, 2, func() State { return d.state(room - 1) })
	}
	return s
}

// chart has up to that many states that lie in none.
func (d *dice) chart(states int) Chart {
	variable := func() Var {
		return Var{Name: d.name(), N: int64(d.number() * (1 - 2*d.upTo(2))), At: d.place()}
	}
	return Chart{
		Name: d.name(), Version: d.number(), At: d.place(),
		Vars:   some(d, 3, variable),
		States: some(d, states, func() State { return d.state(api.MaxDeep) }),
	}
}

// P7.2: many charts that aren't alike: what is printed is read, and is the same, but for places; and printed again it is the same text.
func TestPrintedIsRead(t *testing.T) {
	var d dice
	printed, long := 0, 0
	for i := range 1500 {
		c := d.chart(3 + i%5*3)
		s := sketch(c, plainly)
		if len(s) > api.MaxSource || wordsOf(t, s) > api.MaxWords {
			long++
			wantLong(t, len(s), c)
			continue
		}
		printed += len(s)
		wantText(t, c, s)
		wantLayout(t, s)
	}
	// Else the rounds would tell little.
	if printed < 1000000 || long < 5 {
		t.Error(printed, long)
	}
}

// wantLayout fails unless each line of a text has as many tabs ahead as things it lies in, by its brackets, and no other gap than one blank.
func wantLayout(t *testing.T, s string) {
	t.Helper()
	deep := 0
	for line := range strings.Lines(s) {
		bare := strings.TrimLeft(line, "\t")
		if bare == "}\n" {
			deep--
		}
		if len(line)-len(bare) != deep || !strings.HasSuffix(line, "\n") || strings.Join(strings.Fields(bare), " ")+"\n" != bare {
			t.Errorf("%q, %d deep", line, deep)
		}
		if strings.HasSuffix(bare, " {\n") {
			deep++
		}
	}
	if deep != 0 {
		t.Errorf("%q", s)
	}
}

// P7.2: what is read of a text is printed as its own text, whatever stood between the words, and in whichever order ons and states stood.
func TestReadIsPrinted(t *testing.T) {
	for s, want := range map[string]string{
		"chart c 1{}": "chart c 1 {\n}\n",
		"# я\nchart\nc # 1 {\n\t1 { var n=-\n7 var k = - 0 }":                                  "chart c 1 {\n\tvar n = -7\n\tvar k = 0\n}\n",
		"chart c 1 { state a { state b { } on e go b state d { end } on f if (((x)))go d } }":  "chart c 1 {\n\tstate a {\n\t\ton e go b\n\t\ton f if x go d\n\t\tstate b {\n\t\t}\n\t\tstate d {\n\t\t\tend\n\t\t}\n\t}\n}\n",
		"chart c 1{state a{do x undo y at 0 retries 0 on e go b set n=(a+b)+c set m=a-(b-c)}}": "chart c 1 {\n\tstate a {\n\t\tdo x undo y at 0 retries 0\n\t\ton e go b set n = a + b + c set m = a - (b - c)\n\t}\n}\n",
	} {
		c, at, no := chart.Read(s)
		if no != api.OK {
			t.Fatal(s, at, no)
		}
		wantText(t, c, want)
	}
}

// P7.1, P7.2, R1: what is read of any text is formed; it is printed, unless its own text is too long.
func FuzzPrint(f *testing.F) {
	for _, s := range []string{"", "chart a 1 { }", sketch(full(), plainly), sketch(full(), loosely), "chart a 1 { var n = - 0 state b { all state c { do x undo y at 1 retries 2 on e if !(a<b) go c set n = -(-n) } } }", "chart a 1 {" + strings.Repeat("state a{", 6) + strings.Repeat("}", 6) + "}"} {
		f.Add(s)
	}
	f.Fuzz(func(t *testing.T, s string) {
		c, _, no := chart.Read(s)
		if no != api.OK {
			return
		}
		want := sketch(c, plainly)
		if len(want) > api.MaxSource || wordsOf(t, want) > api.MaxWords {
			wantLong(t, s, c)
			return
		}
		wantText(t, c, want)
	})
}

// P7.1: a chart that was read is formed, and may yet have a text that is too long.
func TestReadIsTooLong(t *testing.T) {
	s := "chart c 1{" + strings.Repeat("state a{state b{state c{state d{state e{state f{}}}}}}", 120) + "}"
	c, at, no := chart.Read(s)
	if no != api.OK {
		t.Fatal(at, no)
	}
	wantLong(t, "tabs", c)
}

// R1: zero, and charts that lie in themselves, or are large: every call ends.
func TestStrange(t *testing.T) {
	wantRefused(t, "zero", Chart{})
	wantRefused(t, "zero", Chart{Vars: []Var{{}}, States: []State{{}}})
	wantRefused(t, "zero", Chart{Name: "a", States: []State{{Name: "a", Ons: []On{{}}}}})
	loop := []State{{Name: "a"}, {Name: "b", Ons: []On{{Event: "e", Target: "a"}}}, {Name: "c"}}
	loop[1].Inner = loop
	wantRefused(t, "loop", Chart{Name: "a", States: loop})
	wide := slices.Repeat([]State{{Name: "a"}}, 1000)
	for i := range wide {
		wide[i].Inner = wide
	}
	wantRefused(t, "wide loop", Chart{Name: "a", States: wide})
	wantRefused(t, "deep", Chart{Name: "a", States: []State{nested(1<<16, State{Name: "a"})}})
	e := lit(1)
	for range 1 << 16 {
		e = not(e)
	}
	shared := ref("x")
	for range 60 {
		shared = bin(shared, "+", shared)
	}
	for _, c := range slices.Concat(withExpression(e), withExpression(shared)) {
		wantRefused(t, "large", c)
	}
	const n = 1 << 18
	states := slices.Repeat([]State{{Name: "a", End: true}}, n)
	for _, c := range []Chart{
		{Name: "a", Vars: slices.Repeat([]Var{{Name: "n"}}, n)},
		{Name: "a", States: states},
		{Name: "a", States: []State{{Name: "b", Inner: states}}},
		{Name: "a", States: []State{{Name: "b", Ons: slices.Repeat([]On{{Event: "e", Target: "t"}}, n)}}},
		{Name: "a", States: []State{{Name: "b", Ons: []On{{Event: "e", Target: "t", Sets: slices.Repeat([]Set{set("n", lit(1))}, n)}}}}},
	} {
		wantLong(t, "large", c)
		c.States = append(slices.Clone(c.States), State{Name: "if"})
		wantRefused(t, "large", c)
	}
}

// R2, R5: what is asked once more is answered alike, errors between or not.
func TestNothingIsKept(t *testing.T) {
	c := full()
	want := sketch(c, plainly)
	for range 3 {
		wantText(t, c, want)
		wantRefused(t, "zero", Chart{})
		wantLong(t, "long", ofBytes(api.MaxSource+1, "a"))
		wantText(t, Chart{Name: "c"}, "chart c 0 {\n}\n")
	}
}

// R4: lists of no elements are alike, nil or empty.
func TestNoElements(t *testing.T) {
	bare := Chart{Name: "c", States: []State{{Name: "a", Ons: []On{{Event: "e", Target: "t"}}, Inner: []State{{Name: "b"}}}}}
	empty := Chart{Name: "c", Vars: []Var{}, States: []State{{Name: "a", Ons: []On{{Event: "e", Target: "t", Sets: make([]Set, 0, 5)}}, Inner: []State{{Name: "b", Ons: []On{}, Inner: make([]State, 0, 2)}}}}}
	wantText(t, bare, sketch(bare, plainly))
	wantText(t, empty, sketch(bare, plainly))
	wantText(t, Chart{Name: "c", Vars: []Var{}, States: []State{}}, "chart c 0 {\n}\n")
}

// roomy gives each list of a chart spare room, with something in it.
func roomy(c *Chart) {
	eachThing("c", reflect.ValueOf(c).Elem(), func(_ string, v reflect.Value) {
		if v.Kind() != reflect.Slice {
			return
		}
		list := reflect.MakeSlice(v.Type(), v.Len()+3, v.Len()+3)
		reflect.Copy(list, v)
		for i := v.Len(); i < list.Len(); i++ {
			eachThing("room", list.Index(i), func(_ string, x reflect.Value) { x.Set(instead(x)[0]) })
		}
		v.Set(list.Slice(0, v.Len()))
	})
}

// rooms is what stands in a chart, in the spare room of its lists too.
func rooms(c Chart) string {
	s := fmt.Sprintf("%#v\n", c)
	eachThing("c", reflect.ValueOf(&c).Elem(), func(path string, v reflect.Value) {
		if v.Kind() == reflect.Slice {
			s += path + fmt.Sprintf("%#v\n", v.Slice(0, v.Cap()).Interface())
		}
	})
	return s
}

// R3: what is handed in is left as it is, its spare room too, and the spare room counts for nothing.
func TestChartsAreLeft(t *testing.T) {
	for _, c := range []Chart{full(), withState(State{Name: "a", Do: "x"}), dense(500, 5, -1), ofBytes(api.MaxSource+1, "я")} {
		want, no := Print(c)
		roomy(&c)
		before := rooms(c)
		if s, got := Print(c); s != want || got != no || Formed(c) != (no != api.ErrArg) {
			t.Error("the spare room counts")
		}
		if rooms(c) != before {
			t.Error("changed")
		}
	}
}

// R3: the text is new memory: it stays when what was handed in changes.
func TestTextIsNew(t *testing.T) {
	memory := []byte("name")
	name := unsafe.String(&memory[0], len(memory))
	c := Chart{Name: name, Vars: []Var{{Name: name}}, States: []State{{Name: name, Do: name, Undo: name, Ons: []On{{Event: name, Guard: ref(name), Target: name, Sets: []Set{set(name, ref(name))}}}}}}
	s, no := Print(c)
	want := strings.Clone(s)
	again, _ := Print(c)
	if unsafe.StringData(s) == unsafe.StringData(again) {
		t.Error("two answers share their memory")
	}
	copy(memory, "____")
	if no != api.OK || s != want || strings.Count(s, "name") != 10 {
		t.Error(s, no)
	}
	wantRefused(t, "names that begin with _", c)
}
