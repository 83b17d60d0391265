package chart

import (
	"fmt"
	"math"
	"reflect"
	"slices"
	"strconv"
	"strings"
	"testing"
	"unicode/utf8"
	"unsafe"

	"tumbrel/api"
	"tumbrel/expr"
	"tumbrel/glyph"
	"tumbrel/guard"
)

// Short to write.
type tree = expr.Expr

func lit(n int64) tree                   { return expr.Lit{N: n} }
func ref(name string) tree               { return expr.Ref{Name: name} }
func not(x tree) tree                    { return expr.Not{X: x} }
func neg(x tree) tree                    { return expr.Neg{X: x} }
func bin(l tree, op string, r tree) tree { return expr.Bin{Op: op, L: l, R: r} }
func pos(line, col int) api.Pos          { return api.Pos{Line: line, Col: col} }

var reserved = strings.Fields("chart var state all end do undo at retries on if go set")

// universe is every word that layer 3 knows, but for names and numbers, of which there is one each.
var universe = append(slices.Clone(reserved), strings.Fields("x 7 { } ( ) = == != ! < <= + - * && ||")...)

// Other types: one that is like a Lit, one that promotes a Lit's method, and one that can't be asked.
type likeLit struct{ N int64 }
type holdsLit struct{ expr.Lit }
type loud struct{}

func (likeLit) Kind() int { return 1 }
func (*loud) Kind() int   { panic("asked") }

// others is something of each other type, pointers to the five types too.
func others() []tree {
	return []tree{likeLit{1}, holdsLit{}, &loud{}, (*loud)(nil), &expr.Lit{N: 1}, (*expr.Lit)(nil), &expr.Ref{Name: "a"}, &expr.Not{X: lit(1)}, &expr.Neg{X: lit(1)}, &expr.Bin{Op: "+", L: lit(1), R: lit(2)}, (*expr.Bin)(nil)}
}

// shown is all of a chart as a text. Lists of no elements are one thing, nil or empty.
func shown(c Chart) string {
	return strings.ReplaceAll(fmt.Sprintf("%#v", c), "(nil)", "{}")
}

// placeBehind is the place behind s, by the words of layer 3.
func placeBehind(s string) api.Pos {
	line := s[strings.LastIndexByte(s, '\n')+1:]
	return pos(1+strings.Count(s, "\n"), 1+utf8.RuneCountInString(line))
}

// wantRead fails unless Read answers that chart.
func wantRead(t *testing.T, s string, want Chart) {
	t.Helper()
	c, at, no := Read(s)
	if no != api.OK || at != (api.Pos{}) || shown(c) != shown(want) {
		t.Errorf("Read(%.300q) = %s %v %v, want %s", s, shown(c), at, no, shown(want))
	}
}

// wantFaultAt fails unless Read refuses s there.
func wantFaultAt(t *testing.T, s string, at api.Pos, no api.Errno) {
	t.Helper()
	c, gotAt, gotNo := Read(s)
	if gotNo != no || gotAt != at || shown(c) != shown(Chart{}) {
		t.Errorf("Read(%.300q) = %s %v %v, want %v %v", s, shown(c), gotAt, gotNo, at, no)
	}
}

// wantFault fails unless Read refuses s at its mark, @, which isn't of it.
func wantFault(t *testing.T, s string, no api.Errno) {
	t.Helper()
	ahead, behind, ok := strings.Cut(s, "@")
	if !ok {
		t.Fatalf("%q has no mark", s)
	}
	wantFaultAt(t, ahead+behind, placeBehind(ahead), no)
}

// inState is a chart with one state that has this in it.
func inState(s string) string {
	return "chart c 1 { state a { " + s + " } }"
}

// wantState fails unless a state that has this text in it is that one, but for places.
func wantState(t *testing.T, s string, want State) {
	t.Helper()
	want.Name = "a"
	c, at, no := Read(inState(s))
	got := Strip(c)
	if no != api.OK || at != (api.Pos{}) || shown(got) != shown(Chart{Name: "c", Version: 1, States: []State{want}}) {
		t.Errorf("%s: %s %v %v, want %#v", s, shown(got), at, no, want)
	}
}

// P6.1: the chapter's example, with all its places.
func TestReadExample(t *testing.T) {
	wantRead(t, "chart pay 1 { var n = 0 state A { do take undo give at 0 retries 2 on done if n < 3 go B set n = n + 1 } state B { end } }", Chart{
		Name: "pay", Version: 1, At: pos(1, 7),
		Vars: []Var{{Name: "n", N: 0, At: pos(1, 19)}},
		States: []State{
			{Name: "A", At: pos(1, 31), Do: "take", Undo: "give", Where: 0, Retries: 2, Ons: []On{
				{Event: "done", Guard: bin(ref("n"), "<", lit(3)), Target: "B", Sets: []Set{{Name: "n", To: bin(ref("n"), "+", lit(1))}}, At: pos(1, 71)},
			}},
			{Name: "B", At: pos(1, 112), End: true},
		},
	})
}

// P6.1: the same words over lines, with remarks, tabs and runes of two bytes: the places are those of runes.
func TestReadPlaces(t *testing.T) {
	s := "# я\n chart\n\tплата # 1 {\n 1000000000{var я=-7 var\n\n  яя = 3\n" +
		"#}\n\tstate внешний{on я go яя\n on\n\tы if я<1 go\tя set я=-я\tstate в{end}on x go y}}# }\n\n"
	wantRead(t, s, Chart{
		Name: "плата", Version: api.MaxInt, At: pos(3, 2),
		Vars: []Var{{Name: "я", N: -7, At: pos(4, 17)}, {Name: "яя", N: 3, At: pos(6, 3)}},
		States: []State{{
			Name: "внешний", At: pos(8, 8),
			Ons: []On{
				{Event: "я", Target: "яя", At: pos(8, 19)},
				{Event: "ы", Guard: bin(ref("я"), "<", lit(1)), Target: "я", Sets: []Set{{Name: "я", To: neg(ref("я"))}}, At: pos(10, 2)},
				{Event: "x", Target: "y", At: pos(10, 40)},
			},
			Inner: []State{{Name: "в", At: pos(10, 31), End: true}},
		}},
	})
}

// P6.1: charts of no variables, no states, and neither; numbers and names at their edges.
func TestReadSmall(t *testing.T) {
	for s, want := range map[string]Chart{
		"chart a 0 { }":                            {Name: "a", At: pos(1, 7)},
		"chart a 0{}":                              {Name: "a", At: pos(1, 7)},
		"chart a 1000000000 { }":                   {Name: "a", Version: api.MaxInt, At: pos(1, 7)},
		"chart done 10 { var x = 0 }":              {Name: "done", Version: 10, At: pos(1, 7), Vars: []Var{{Name: "x", At: pos(1, 21)}}},
		"chart a 1 { state b { } }":                {Name: "a", Version: 1, At: pos(1, 7), States: []State{{Name: "b", At: pos(1, 19)}}},
		"chart a 1 { state b { } state b { } }":    {Name: "a", Version: 1, At: pos(1, 7), States: []State{{Name: "b", At: pos(1, 19)}, {Name: "b", At: pos(1, 31)}}},
		"chart Charts 1 { var a = 1 state a { } }": {Name: "Charts", Version: 1, At: pos(1, 7), Vars: []Var{{Name: "a", N: 1, At: pos(1, 22)}}, States: []State{{Name: "a", At: pos(1, 34)}}},
	} {
		wantRead(t, s, want)
	}
	for _, name := range []string{"a", "Z", "я", "а", "done", "State", "IF", "ifs", "on_", "do1", strings.Repeat("a", api.MaxName), strings.Repeat("я", api.MaxName)} {
		wantRead(t, "chart "+name+" 1 { }", Chart{Name: name, Version: 1, At: pos(1, 7)})
		wantState(t, "do "+name+" undo "+name+" at 1 retries 1 on "+name+" go "+name+" set "+name+" = "+name, State{Do: name, Undo: name, Where: 1, Retries: 1, Ons: []On{{Event: name, Target: name, Sets: []Set{{Name: name, To: ref(name)}}}}})
	}
}

// P6.1: variables, of negative numbers too, and how many there are is layer 8's.
func TestReadVars(t *testing.T) {
	for s, n := range map[string]int64{"0": 0, "1": 1, "42": 42, "1000000000": api.MaxInt, "-0": 0, "-1": -1, "- 1": -1, "-\n\t 999": -999, "-1000000000": -api.MaxInt, "- # 3\n4": -4} {
		wantRead(t, "chart c 1 { var v = "+s+" }", Chart{Name: "c", Version: 1, At: pos(1, 7), Vars: []Var{{Name: "v", N: n, At: pos(1, 17)}}})
		wantRead(t, "chart c 1{var v="+s+"}", Chart{Name: "c", Version: 1, At: pos(1, 7), Vars: []Var{{Name: "v", N: n, At: pos(1, 15)}}})
	}
	for _, n := range []int{1, 2, api.MaxVars, api.MaxVars + 1, 300} {
		want := Chart{Name: "c", Version: 1, At: pos(1, 7)}
		for i := range n {
			want.Vars = append(want.Vars, Var{Name: "v" + strconv.Itoa(i), N: int64(-i), At: pos(i+2, 5)})
		}
		s := "chart c 1 {"
		for i := range n {
			s += "\nvar v" + strconv.Itoa(i) + " = -" + strconv.Itoa(i)
		}
		wantRead(t, s+"}", want)
	}
}

// P6.1: states of each kind, and what layer 8 refuses is read.
func TestReadStates(t *testing.T) {
	b, d := State{Name: "b"}, State{Name: "d", End: true}
	e, f := On{Event: "e", Target: "x"}, On{Event: "f", Target: "a"}
	kinds := map[string]State{
		"":                                     {},
		"all":                                  {All: true},
		"end":                                  {End: true},
		"do p undo q at 0 retries 0":           {Do: "p", Undo: "q"},
		"do p undo q at 3 retries 5":           {Do: "p", Undo: "q", Where: 3, Retries: 5},
		"do p undo p at 4 retries 6":           {Do: "p", Undo: "p", Where: 4, Retries: 6},
		"do p undo q at 1000000000 retries 7":  {Do: "p", Undo: "q", Where: api.MaxInt, Retries: 7},
		"do p undo q at 11 retries 1000000000": {Do: "p", Undo: "q", Where: 11, Retries: api.MaxInt},
	}
	for s, want := range kinds {
		wantState(t, s, want)
		// Behind that ons and states come in any order.
		for more, lists := range map[string]State{
			"on e go x":                                            {Ons: []On{e}},
			"state b { }":                                          {Inner: []State{b}},
			"on e go x on f go a":                                  {Ons: []On{e, f}},
			"on f go a on e go x":                                  {Ons: []On{f, e}},
			"state b { } state d { end }":                          {Inner: []State{b, d}},
			"state d { end } state b { }":                          {Inner: []State{d, b}},
			"on e go x state b { }":                                {Ons: []On{e}, Inner: []State{b}},
			"state b { } on e go x":                                {Ons: []On{e}, Inner: []State{b}},
			"on e go x state b { } on f go a state d { end }":      {Ons: []On{e, f}, Inner: []State{b, d}},
			"state b { } on e go x state d { end } on f go a":      {Ons: []On{e, f}, Inner: []State{b, d}},
			"state b { } state d { end } on e go x on e go x":      {Ons: []On{e, e}, Inner: []State{b, d}},
			"state b { on e go x } state d { end }":                {Inner: []State{{Name: "b", Ons: []On{e}}, d}},
			"state b { all state d { end } on f go a } on e go x":  {Ons: []On{e}, Inner: []State{{Name: "b", All: true, Ons: []On{f}, Inner: []State{d}}}},
			strings.Repeat("on e go x ", 50):                       {Ons: slices.Repeat([]On{e}, 50)},
			strings.Repeat("state d { end } ", 200):                {Inner: slices.Repeat([]State{d}, 200)},
			strings.Repeat("on e go x state b { } on f go a ", 20): {Ons: slices.Repeat([]On{e, f}, 20), Inner: slices.Repeat([]State{b}, 20)},
		} {
			want.Ons, want.Inner = lists.Ons, lists.Inner
			wantState(t, s+" "+more, want)
		}
	}
}

// P6.1: ons with and without if, with no set and with several.
func TestReadOns(t *testing.T) {
	x, y := ref("x"), ref("y")
	sets := slices.Repeat([]Set{{Name: "x", To: x}}, 100)
	for s, want := range map[string]On{
		"on e go b":                                     {},
		"on e if x go b":                                {Guard: x},
		"on e if 0 go b":                                {Guard: lit(0)},
		"on e if (x) go b":                              {Guard: x},
		"on e if x < 3 && !y go b":                      {Guard: bin(bin(x, "<", lit(3)), "&&", not(y))},
		"on e if -(x - (y - 1)) == 0 || y go b":         {Guard: bin(bin(neg(bin(x, "-", bin(y, "-", lit(1)))), "==", lit(0)), "||", y)},
		"on e go b set x = 1":                           {Sets: []Set{{"x", lit(1)}}},
		"on e go b set x = -1":                          {Sets: []Set{{"x", neg(lit(1))}}},
		"on e go b set x =-1 set y = x":                 {Sets: []Set{{"x", neg(lit(1))}, {"y", x}}},
		"on e go b set x = x == y set x = x":            {Sets: []Set{{"x", bin(x, "==", y)}, {"x", x}}},
		"on e if y go b set x = x + 1 set y = (y) * -x": {Guard: y, Sets: []Set{{"x", bin(x, "+", lit(1))}, {"y", bin(y, "*", neg(x))}}},
		"on e if !!!!!!!!!!!1 go b set x = !!!!!!!!!!!1": {
			Guard: not(not(not(not(not(not(not(not(not(not(not(lit(1)))))))))))),
			Sets:  []Set{{"x", not(not(not(not(not(not(not(not(not(not(not(lit(1))))))))))))}},
		},
		"on e go b set a = 1 set b = 2 set c = 3 set d = 4 set e = 5": {Sets: []Set{{"a", lit(1)}, {"b", lit(2)}, {"c", lit(3)}, {"d", lit(4)}, {"e", lit(5)}}},
		"on e go b" + strings.Repeat(" set x = x", 100):               {Sets: sets},
	} {
		want.Event, want.Target = "e", "b"
		wantState(t, s, State{Ons: []On{want}})
		wantState(t, "end on done go done "+s+" on z if x go z", State{End: true, Ons: []On{{Event: "done", Target: "done"}, want, {Event: "z", Guard: x, Target: "z"}}})
		wantState(t, s+" state i { "+s+" }", State{Ons: []On{want}, Inner: []State{{Name: "i", Ons: []On{want}}}})
	}
}

// P6.1: a Guard that is none is nil itself.
func TestReadNoGuard(t *testing.T) {
	c, _, no := Read(inState("on e go b"))
	if no != api.OK || c.States[0].Ons[0].Guard != nil {
		t.Error(no, c)
	}
}

// P6.1: layer 3's errors and their places, whatever else is wrong, ahead of them too.
func TestReadWords(t *testing.T) {
	for _, s := range []string{"@&", "chart @01", "chart c @1a { }", "chart c 1 { var n = @1000000001 }", "chart c 1 { var n @> 0 }", "chart c 1 {\n state я @_ { } }", "chart c 1 { } @;", "chart @" + strings.Repeat("a", api.MaxName+1) + " 1 { }", "chart c 1 { @\xff }", "chart c 1 {@\r }",
		"state state @&", "} @?", "chart c 1 { } x\n@%", inState("on x if !!!!!!!!!!!!1 go b @$"), strings.Repeat("state a {\n", 9) + "@/", "chart @é 1"} {
		wantFault(t, s, api.ErrWord)
	}
	good := "chart c 1 { }"
	wantRead(t, good+strings.Repeat(" ", api.MaxSource-len(good)), Chart{Name: "c", Version: 1, At: pos(1, 7)})
	wantFault(t, "@"+good+strings.Repeat(" ", api.MaxSource-len(good)+1), api.ErrLong)
	wantFault(t, "@"+strings.Repeat("&", api.MaxSource+1), api.ErrLong)
	wantFault(t, "@"+strings.Repeat("\n", api.MaxSource+1), api.ErrLong)
	wantFault(t, strings.Repeat("x\n", api.MaxWords)+"@x", api.ErrLong)
	wantFault(t, strings.Repeat("x ", api.MaxWords)+"@x &", api.ErrLong)
	// Just as many words as there may be: four of each state, and 12 around them.
	const states = (api.MaxWords - 12) / 4
	most := "chart c 1 { var a = - 2 " + strings.Repeat("state b { }\n", states) + "} "
	c, _, no := Read(strings.Replace(most, "}", "end }", 2))
	if want := []State{{Name: "b", End: true}, {Name: "b", End: true}, {Name: "b"}}; no != api.OK || len(c.States) != states || shown(Strip(Chart{States: c.States[:3]})) != shown(Chart{States: want}) {
		t.Error(no, len(c.States))
	}
	wantFault(t, most+"@} x", api.ErrSyntax)
	wantFault(t, most+"} x @x", api.ErrLong)
	wantFault(t, strings.Replace(most, "}", "end }", 2)+"@}", api.ErrLong)
}

// parts is a text of every kind of thing that a chart has, as words.
const parts = "chart pay 12 { var n = 0 var k = - 5 state a { do take undo give at 3 retries 2 on done if n < 3 && ! ( k + 1 * n ) go b set n = n + 1 set k = - n on stop go z } " +
	"state b { all on e if ( n ) go z state c { state d { do x undo y at 1 retries 0 on done go e } on f go f set n = 0 state e { end } on g go g } state f { do p undo q at 3 retries 1 on done go z } on h if n == k || n != 1 && n <= 2 go b set k = k * 2 - ( n < k ) } state z { end } state y { } }"

// P6.1: texts that end too early, at each word: the place is that behind the text, and all that stands there.
func TestReadEndsEarly(t *testing.T) {
	words := strings.Fields(parts)
	if _, at, no := Read(parts); no != api.OK {
		t.Fatal(at, no)
	}
	for n := range words {
		for _, gap := range []string{" ", "\n", "\n# я }\n\t"} {
			s := strings.Join(words[:n], gap)
			for _, behind := range []string{"", " ", "\n", "\n\n  ", " # я }", "#\n"} {
				wantFaultAt(t, s+behind, placeBehind(s+behind), api.ErrSyntax)
			}
		}
	}
	wantFault(t, "@", api.ErrSyntax)
	wantFault(t, "\n # chart c 1 { }\n@", api.ErrSyntax)
}

// P6.1: words that follow the chart's last one.
func TestReadFollowing(t *testing.T) {
	for _, w := range universe {
		wantFault(t, "chart c 1 { } @"+w, api.ErrSyntax)
		wantFault(t, "chart c 1 { }\n\n # я }\n\t@"+w+" "+w+" }", api.ErrSyntax)
		wantFault(t, parts+" @"+w, api.ErrSyntax)
		wantFault(t, inState("end")+"\n\t@"+w+" chart c 1 { }", api.ErrSyntax)
	}
	wantFault(t, "chart c 1 { } @chart c 1 { }", api.ErrSyntax)
	wantFault(t, inState("")+" @var n = 0", api.ErrSyntax)
	wantFault(t, inState("")+" @state b { }", api.ErrSyntax)
	wantFault(t, inState("")+" @} }", api.ErrSyntax)
}

// P6.1: reserved words where a NAME is asked for, each one at each place.
func TestReadReserved(t *testing.T) {
	for _, w := range reserved {
		wantFault(t, "chart @"+w+" 1 { }", api.ErrSyntax)
		wantFault(t, "chart c 1 { var @"+w+" = 0 }", api.ErrSyntax)
		wantFault(t, "chart c 1 { state @"+w+" { } }", api.ErrSyntax)
		wantFault(t, inState("state @"+w+" { }"), api.ErrSyntax)
		wantFault(t, inState("do @"+w+" undo y at 0 retries 0"), api.ErrSyntax)
		wantFault(t, inState("do x undo @"+w+" at 0 retries 0"), api.ErrSyntax)
		wantFault(t, inState("on @"+w+" go b"), api.ErrSyntax)
		wantFault(t, inState("on e go @"+w), api.ErrSyntax)
		wantFault(t, inState("on e if x go @"+w+" set n = 0"), api.ErrSyntax)
		wantFault(t, inState("on e go b set @"+w+" = 0"), api.ErrSyntax)
		wantFault(t, inState("on e if @"+w+" go b"), api.ErrSyntax)
		wantFault(t, inState("on e if x + @"+w+" go b"), api.ErrSyntax)
		wantFault(t, inState("on e go b set n = @"+w), api.ErrSyntax)
	}
}

// P6.1: wrong words of each kind, at places of each kind.
func TestReadWrong(t *testing.T) {
	for _, s := range []string{
		"@c 1 { }", "@{ }", "@1", "@Chart c 1 { }", "chart @1 { }", "chart @{ }", "chart c @{ }", "chart c @d 1 { }", "chart c @- 1 { }", "chart c 1 @2 { }", "chart c 1 @( )", "chart c 1 @state a { }", "chart c 1 { @{ } }",
		"chart c 1 { @n = 0 }", "chart c 1 { var @1 = 0 }", "chart c 1 { var n @0 }", "chart c 1 { var n @== 0 }", "chart c 1 { var n = @x }", "chart c 1 { var n = @+ 1 }", "chart c 1 { var n = - @- 1 }", "chart c 1 { var n = - @x }", "chart c 1 { var n = @( 1 ) }", "chart c 1 { var n = @! 1 }", "chart c 1 { var n = 1 @+ 1 }", "chart c 1 { var n = 1 @2 }", "chart c 1 { var n = 1 @n = 2 }", "chart c 1 { var n @}", "chart c 1 { var n = @}", "chart c 1 { var n = - @}",
		"chart c 1 { state a { } @var n = 0 }", "chart c 1 { var n = 0 state a { } @var k = 0 state b { } }", "chart c 1 { @on e go a }", "chart c 1 { @all state a { } }", "chart c 1 { @end }", "chart c 1 { state a { } @on e go a }", "chart c 1 { @do x undo y at 0 retries 0 }",
		"chart c 1 { state @{ } }", "chart c 1 { state @1 { } }", "chart c 1 { state a @1 { } }", "chart c 1 { state a @b { } }", "chart c 1 { state a @( ) }", "chart c 1 { state a @on e go b }",
		inState("@var n = 0"), inState("@{ }"), inState("@x"), inState("@7"), inState("@if x go b"), inState("@go b"), inState("@set n = 0"), inState("@undo y"), inState("@at 0"), inState("@retries 0"), inState("@chart c 1 { }"),
		inState("all @all"), inState("all @end"), inState("all @do x undo y at 0 retries 0"), inState("end @all"), inState("end @end"), inState("end @do x undo y at 0 retries 0"), inState("do x undo y at 0 retries 0 @all"), inState("do x undo y at 0 retries 0 @end"), inState("do x undo y at 0 retries 0 @do x undo y at 0 retries 0"),
		inState("on e go b @all"), inState("on e go b @end"), inState("on e go b @do x undo y at 0 retries 0"), inState("state b { } @all"), inState("state b { } @end"), inState("state b { } @do x undo y at 0 retries 0"), inState("on e go b set n = 0 @end"), inState("on e go b set n = 0 @all"),
		inState("do @7 undo y at 0 retries 0"), inState("do x @y at 0 retries 0"), inState("do x @at 0 retries 0"), inState("do x undo @0 at 0 retries 0"), inState("do x undo y @retries 0 at 0"), inState("do x undo y @0 retries 0"), inState("do x undo y at @b retries 0"), inState("do x undo y at @- 1 retries 0"), inState("do x undo y at @retries 0"), inState("do x undo y at 0 @0"), inState("do x undo y at 0 retries @x"), inState("do x undo y at 0 retries @- 1"), inState("do x undo y at 0 retries 0 @0"), inState("do x undo y at 0 @on e go b"), inState("@undo y do x at 0 retries 0"),
		inState("on @7 go b"), inState("on @go b"), inState("on e @b"), inState("on e @set n = 0 go b"), inState("on e @f go b"), inState("on e go @7"), inState("on e go b @c"), inState("on e go b @if x"), inState("on e go b @go c"), inState("on e if x @if y go b"), inState("on e if x go b @if y"), inState("on e if x @set n = 0"), inState("on e @= 0"), inState("on e if x @on f go b"),
		inState("on e if @go b"), inState("on e if x @y go b"), inState("on e if x @7 go b"), inState("on e if ( @) go b"), inState("on e if ( x @go b"), inState("on e if x @) go b"), inState("on e if x @= 1 go b"), inState("on e if x + @go b"), inState("on e if x < 1 @< 2 go b"), inState("on e if x < 1 && y == 2 @!= 3 go b"), inState("on e if ( x < 1 @< 2 ) go b"), inState("on e if x @! go b"), inState("on e if x @{ go b"), inState("on e if @} go b"), inState("on e if x @}"),
		inState("on e go b set @7 = 0"), inState("on e go b set n @0"), inState("on e go b set n @== 0"), inState("on e go b set n = @set m = 0"), inState("on e go b set n = @= 0"), inState("on e go b set n = 0 @m = 0"), inState("on e go b set n = 0 @= 0"), inState("on e go b set n = 0 @7"), inState("on e go b set n = 0 @go c"), inState("on e go b set n = 0 @if x"), inState("on e go b set n = 0 + @on f go b"), inState("on e go b set n = ( 0 @set m = 1"), inState("on e go b set n = 0 @) set m = 1"), inState("on e go b set n = 0 < 1 @<= 2"),
		"chart c 1 { state a { state b { } } } @}", "chart c 1 { state a { state b { } @var n = 0 } }",
	} {
		wantFault(t, s, api.ErrSyntax)
	}
}

// nested is states that lie that deep in one another, the innermost one with that in it.
func nested(deep int, inner string) string {
	return strings.Repeat("state s { ", deep) + inner + strings.Repeat(" }", deep)
}

// P6.1: states that lie just as deep as they may, and deeper.
func TestReadDeep(t *testing.T) {
	for deep := range api.MaxDeep + 1 {
		want := Chart{Name: "c", Version: 1}
		list := &want.States
		for range deep {
			*list = []State{{Name: "s"}}
			list = &(*list)[0].Inner
		}
		c, at, no := Read("chart c 1 { " + nested(deep, "") + " }")
		if no != api.OK || shown(Strip(c)) != shown(want) {
			t.Error(deep, at, no)
		}
	}
	most := strings.Repeat("state s { ", api.MaxDeep)
	ends := strings.Repeat(" }", api.MaxDeep)
	for _, inner := range []string{"", "all", "end", "do x undo y at 0 retries 0", "on e go s", "all on e go s set n = 1"} {
		if _, at, no := Read("chart c 1 { " + most + inner + ends + "}"); no != api.OK {
			t.Error(inner, at, no)
		}
		wantFault(t, "chart c 1 { "+most+inner+"\n\t@state s { }"+ends+" }", api.ErrDeep)
		wantFault(t, "chart c 1 { "+most+inner+" @state s { "+nested(3, "")+" }"+ends+" }", api.ErrDeep)
		wantFault(t, "chart c 1 { var я = 0 "+most+inner+" @state", api.ErrDeep)
		wantFault(t, "chart c 1 { "+most+inner+" @state state", api.ErrDeep)
		wantFault(t, "chart c 1 { "+most+inner+" @state 7 } x", api.ErrDeep)
	}
	// States beside one another lie no deeper, however many they are.
	side := "chart c 1 { " + strings.Repeat(nested(api.MaxDeep, "")+" ", 50)
	if _, at, no := Read(side + "}"); no != api.OK {
		t.Error(at, no)
	}
	wantFault(t, side+most+"@"+nested(1, "")+ends+"}", api.ErrDeep)
	wantFault(t, "chart c 1 { "+nested(5, nested(1, "end")+" "+nested(1, "on e go s @state b { }")), api.ErrDeep)
	beside := "chart c 1 { " + strings.Repeat("state s { "+nested(2, "")+" ", api.MaxDeep-2)
	wantFault(t, beside+"state s { state t { @state u", api.ErrDeep)
}

// block is an expression of n parts, n odd, that lies as flat as it can.
func block(n int) string {
	if n == 1 {
		return "x"
	}
	left := (n / 2) | 1
	return "(" + block(left) + " + " + block(n-1-left) + ")"
}

// P6.1: expressions that are read to their end and aren't formed: the place of their first word. What breaks off is told where it does.
func TestReadDeepExpressions(t *testing.T) {
	for n := 35; n < 60; n += 2 {
		for s, parts := range map[string]int{block(n): n, "- " + block(n): n + 1} {
			e, no := guard.Parse(s)
			if parts <= api.MaxNodes {
				if expr.Nodes(e) != parts {
					t.Fatal(n, no)
				}
				wantState(t, "on e if "+s+" go b set n = "+s, State{Ons: []On{{Event: "e", Guard: e, Target: "b", Sets: []Set{{"n", e}}}}})
				continue
			}
			wantDeep(t, s)
		}
	}
	for _, s := range []string{strings.Repeat("!", 12) + "1", strings.Repeat("- ", 500) + "x", strings.Repeat("x + ", 12) + "1", strings.Repeat("x - (", 12) + "1" + strings.Repeat(")", 12), "(" + strings.Repeat("x && ", 30) + "1)", "((" + block(41) + "))"} {
		wantDeep(t, s)
	}
	for _, s := range []string{"!!!!!!!!!!!1", "((((((((((((((1))))))))))))))", strings.Repeat("x + ", 11) + "1"} {
		e, no := guard.Parse(s)
		if no != api.OK {
			t.Fatal(s)
		}
		wantState(t, "on e if "+s+" go b", State{Ons: []On{{Event: "e", Guard: e, Target: "b"}}})
	}
}

// wantDeep fails unless an expression that isn't formed is refused at each place, to its end, and where it breaks off, if it does.
func wantDeep(t *testing.T, s string) {
	t.Helper()
	for _, ahead := range []string{"on e if ", "on e go b set n = ", "on e if x go b set n = 1 set m =\n\t", "all state b { on e if "} {
		ahead = "chart c 1 { var n = 0 state a { " + ahead
		// Whatever stands behind it.
		for _, behind := range []string{" go b } }", " go b set k = 1 } } }", " }", " y", "", " )", " = 1", " if go", " {", " 7", " state"} {
			wantFault(t, ahead+"@"+s+behind, api.ErrDeep)
		}
		wantFault(t, ahead+s+" + @", api.ErrSyntax)
		wantFault(t, ahead+s+" + @go b", api.ErrSyntax)
		wantFault(t, ahead+s+" && @} }", api.ErrSyntax)
		wantFault(t, ahead+s+" * - @= 1", api.ErrSyntax)
		wantFault(t, ahead+"("+s+" @go b", api.ErrSyntax)
		wantFault(t, ahead+"("+s+"@", api.ErrSyntax)
		wantFault(t, ahead+"x < ("+s+" @{", api.ErrSyntax)
	}
}

// P6.1: of two faults the first one along the words is told.
func TestReadTwoFaults(t *testing.T) {
	deep := strings.Repeat("!", 12) + "1"
	within := strings.Repeat("state s { ", api.MaxDeep)
	for s, no := range map[string]api.Errno{
		"chart @1 1 1":                                                       api.ErrSyntax,
		"chart c 1 { @x y z }":                                               api.ErrSyntax,
		"chart @state 1 { state":                                             api.ErrSyntax,
		inState("on @7 if " + deep + " go b"):                                api.ErrSyntax,
		inState("on e if @" + deep + " go 7"):                                api.ErrDeep,
		inState("on e if @" + deep + " " + deep):                             api.ErrDeep,
		inState("on e if @" + deep + " go b set n = " + deep):                api.ErrDeep,
		inState("on e if x go @if set n = " + deep):                          api.ErrSyntax,
		inState("on e if x go b set n = @" + deep + " set 7"):                api.ErrDeep,
		inState("on e go b set n = @" + deep + " set m = ( "):                api.ErrDeep,
		inState("on e go b set n = ( @set m = " + deep):                      api.ErrSyntax,
		"chart c 1 { " + within + "on e if @" + deep + " go b state s { } }": api.ErrDeep,
		"chart c 1 { " + within + "@state s { on e if " + deep + " go b } }": api.ErrDeep,
		"chart c 1 { " + within + "end @end state s { }":                     api.ErrSyntax,
		"chart c 1 { " + within + "@state s { end end }":                     api.ErrDeep,
		"chart c 1 { " + within + "@state s { state s { } }":                 api.ErrDeep,
		"chart c 1 { @on " + within + " state s {":                           api.ErrSyntax,
		"chart c 1 { } @" + within + " state s {":                            api.ErrSyntax,
		"chart c 1 { state a { on e if @" + deep + " go b":                   api.ErrDeep,
		"chart c 1 { state a { on e if @" + deep + " go b } } x":             api.ErrDeep,
	} {
		wantFault(t, s, no)
	}
}

// rules is what may come next, and what is asked then, by the chapter's sentences. An expression is asked for where a state has its name.
var rules = map[string]map[string]string{
	"start":        {"chart": "chart's name"},
	"chart's name": {"NAME": "version"},
	"version":      {"NUMBER": "chart {"},
	"chart {":      {"{": "variables"},
	"variables":    {"var": "var's name", "state": "state's name", "}": "over"},
	"var's name":   {"NAME": "var ="},
	"var =":        {"=": "var's number"},
	"var's number": {"-": "negative", "NUMBER": "variables"},
	"negative":     {"NUMBER": "variables"},
	"states":       {"state": "state's name", "}": "over"},
	"state's name": {"NAME": "state {"},
	"state {":      {"{": "kind"},
	"kind":         {"all": "inner", "end": "inner", "do": "do", "on": "event", "state": "state's name", "}": "outer"},
	"do":           {"NAME": "undo?"},
	"undo?":        {"undo": "undo"},
	"undo":         {"NAME": "at?"},
	"at?":          {"at": "at"},
	"at":           {"NUMBER": "retries?"},
	"retries?":     {"retries": "retries"},
	"retries":      {"NUMBER": "inner"},
	"inner":        {"on": "event", "state": "state's name", "}": "outer"},
	"event":        {"NAME": "if?"},
	"if?":          {"if": "guard", "go": "target"},
	"guard":        {"go": "target"},
	"target":       {"NAME": "sets"},
	"sets":         {"set": "set's name", "on": "event", "state": "state's name", "}": "outer"},
	"set's name":   {"NAME": "set ="},
	"set =":        {"=": "to"},
	"to":           {"set": "set's name", "on": "event", "state": "state's name", "}": "outer"},
	"over":         {},
}

// classOf is what the rules call a word.
func classOf(w string) string {
	switch {
	case slices.Contains(reserved, w):
		return w
	case glyph.Name(w):
		return "NAME"
	case strings.Trim(w, "0123456789") == "":
		return "NUMBER"
	}
	return w
}

// expressionEnd is the number of the word behind the expression that begins at from, and whether it is whole: it goes on with an operand, or with an operator behind one; compared tells, for each bracket, if a comparison came in it.
func expressionEnd(words []string, from int) (int, bool) {
	compared := []bool{false}
	behind := false
	i := from
	for ; i < len(words); i++ {
		top := len(compared) - 1
		switch w := words[i]; {
		case !behind && (w == "!" || w == "-"):
		case !behind && w == "(":
			compared = append(compared, false)
		case !behind && (classOf(w) == "NAME" || classOf(w) == "NUMBER"):
			behind = true
		case behind && w == ")" && top > 0:
			compared = compared[:top]
		case behind && slices.Contains([]string{"+", "-", "*"}, w):
			behind = false
		case behind && slices.Contains([]string{"&&", "||"}, w):
			behind, compared[top] = false, false
		case behind && slices.Contains([]string{"<", "<=", "==", "!="}, w) && !compared[top]:
			behind, compared[top] = false, true
		default:
			return i, behind && top == 0
		}
	}
	return i, behind && len(compared) == 1
}

// faultOf is the number of the word at which words are refused, by the rules, and the error.
func faultOf(words []string) (int, api.Errno) {
	state, deep := "start", 0
	for i := 0; i < len(words); {
		if w := words[i]; w == "state" && rules[state][w] != "" {
			deep++
			if deep > api.MaxDeep {
				return i, api.ErrDeep
			}
		}
		next := rules[state][classOf(words[i])]
		if next == "" {
			return i, api.ErrSyntax
		}
		i++
		if next == "guard" || next == "to" {
			end, whole := expressionEnd(words, i)
			if !whole {
				return end, api.ErrSyntax
			}
			if _, no := guard.Parse(strings.Join(words[i:end], " ")); no == api.ErrDeep {
				return i, api.ErrDeep
			}
			i = end
		}
		if next == "outer" {
			deep--
			next = "inner"
			if deep == 0 {
				next = "states"
			}
		}
		state = next
	}
	if state != "over" {
		return len(words), api.ErrSyntax
	}
	return 0, api.OK
}

// wantByTheRules fails unless Read answers what the rules do.
func wantByTheRules(t *testing.T, words []string) {
	t.Helper()
	n, no := faultOf(words)
	s := strings.Join(words, " ")
	if no == api.OK {
		if _, at, got := Read(s); got != api.OK || at != (api.Pos{}) {
			t.Errorf("Read(%q): %v %v", s, at, got)
		}
		return
	}
	ahead := s
	if n < len(words) {
		ahead = strings.Join(append(slices.Clone(words[:n]), ""), " ")
	}
	wantFaultAt(t, s, placeBehind(ahead), no)
}

// P6.1: every word at each place of a text, at the text's end, in a word's stead, ahead of it, and each word left out.
func TestReadByTheRules(t *testing.T) {
	words := strings.Fields(parts)
	if _, no := faultOf(words); no != api.OK {
		t.Fatal(faultOf(words))
	}
	for i := range len(words) + 1 {
		for _, w := range universe {
			wantByTheRules(t, append(slices.Clone(words[:i]), w))
			wantByTheRules(t, slices.Insert(slices.Clone(words), i, w))
			if i < len(words) {
				instead := slices.Clone(words)
				instead[i] = w
				wantByTheRules(t, instead)
			}
		}
		if i < len(words) {
			wantByTheRules(t, slices.Delete(slices.Clone(words), i, i+1))
		}
	}
}

// dice are numbers that aren't alike, the same ones each time.
type dice uint32

func (d *dice) upTo(n int) int {
	*d = *d*1664525 + 1013904223
	return int(*d>>8) % n
}

// writer makes a chart and its text at once, with all that may stand between words.
type writer struct {
	dice
	text string
}

// word writes a word, and answers its place.
func (w *writer) word(s string) api.Pos {
	gaps := []string{" ", " ", " ", "\n", "\t", "  \n\t", " # я state { }\n", "\n#\n\n "}
	w.text += gaps[w.upTo(len(gaps))]
	at := placeBehind(w.text)
	w.text += s
	return at
}

// words writes several.
func (w *writer) words(list ...string) {
	for _, s := range list {
		w.word(s)
	}
}

// name writes one.
func (w *writer) name() (string, api.Pos) {
	names := []string{"a", "b", "яблоко", "Done", "done", "x_1", "я", "states", "iff", "IF", strings.Repeat("ж", api.MaxName)}
	s := names[w.upTo(len(names))]
	return s, w.word(s)
}

// number writes one.
func (w *writer) number() int {
	numbers := []int{0, 1, 2, 3, 5, 10, 99, 123456, api.MaxInt}
	n := numbers[w.upTo(len(numbers))]
	w.word(strconv.Itoa(n))
	return n
}

// expression is one of any kind.
func (w *writer) expression(room int) tree {
	if room == 0 || w.upTo(4) == 0 {
		return []tree{lit(0), lit(7), lit(api.MaxInt), ref("n"), ref("я"), ref("done")}[w.upTo(6)]
	}
	switch w.upTo(6) {
	case 0:
		return not(w.expression(room - 1))
	case 1:
		return neg(w.expression(room - 1))
	}
	l, r := w.expression(room-1), w.expression(room-1)
	return bin(l, strings.Fields("|| && < <= == != + - *")[w.upTo(9)], r)
}

// writtenExpression writes one by layer 5.
func (w *writer) writtenExpression() tree {
	e := w.expression(w.upTo(5))
	s, no := guard.Print(e)
	words, _, _ := glyph.Words(s)
	if no != api.OK {
		panic(no)
	}
	for _, x := range words {
		w.word(x.Text)
	}
	return e
}

// on writes one.
func (w *writer) on() On {
	var o On
	w.word("on")
	o.Event, o.At = w.name()
	if w.upTo(2) == 0 {
		w.word("if")
		o.Guard = w.writtenExpression()
	}
	w.word("go")
	o.Target, _ = w.name()
	for range w.upTo(3) {
		w.word("set")
		name, _ := w.name()
		w.word("=")
		o.Sets = append(o.Sets, Set{Name: name, To: w.writtenExpression()})
	}
	return o
}

// state writes one, with states in it as long as there is room.
func (w *writer) state(room int) State {
	var s State
	w.word("state")
	s.Name, s.At = w.name()
	w.word("{")
	switch w.upTo(4) {
	case 0:
		w.word("all")
		s.All = true
	case 1:
		w.word("end")
		s.End = true
	case 2:
		w.word("do")
		s.Do, _ = w.name()
		w.word("undo")
		s.Undo, _ = w.name()
		w.word("at")
		s.Where = w.number()
		w.word("retries")
		s.Retries = w.number()
	}
	for range w.upTo(4) {
		if room > 1 && w.upTo(2) == 0 {
			s.Inner = append(s.Inner, w.state(room-1))
		} else {
			s.Ons = append(s.Ons, w.on())
		}
	}
	w.word("}")
	return s
}

// chart writes one.
func (w *writer) chart() Chart {
	var c Chart
	w.word("chart")
	c.Name, c.At = w.name()
	c.Version = w.number()
	w.word("{")
	for range w.upTo(4) {
		var v Var
		w.word("var")
		v.Name, v.At = w.name()
		w.word("=")
		sign := int64(1)
		if w.upTo(2) == 0 {
			w.word("-")
			sign = -1
		}
		v.N = sign * int64(w.number())
		c.Vars = append(c.Vars, v)
	}
	for range w.upTo(4) {
		c.States = append(c.States, w.state(api.MaxDeep))
	}
	w.word("}")
	return c
}

// P6.1, P6.2: many charts that aren't alike: what was written is read, with all places; with one word changed they are as the rules say.
func TestReadWritten(t *testing.T) {
	var w writer
	most := 0
	for range 3000 {
		w.text = ""
		want := w.chart()
		wantRead(t, w.text, want)
		c, _, _ := Read(w.text)
		if !Same(c, want) || !Same(want, c) {
			t.Errorf("not the same: %q", w.text)
		}
		list, _, _ := glyph.Words(w.text)
		var words []string
		for _, x := range list {
			words = append(words, x.Text)
		}
		most = max(most, len(words))
		wantByTheRules(t, words[:w.upTo(len(words))])
		for range 5 {
			changed := slices.Clone(words)
			changed[w.upTo(len(words))] = universe[w.upTo(len(universe))]
			wantByTheRules(t, changed)
			wantByTheRules(t, slices.Insert(slices.Clone(words), w.upTo(len(words)+1), universe[w.upTo(len(universe))]))
		}
	}
	// Else the rounds would tell little.
	if most < 300 {
		t.Error(most)
	}
}

// full is a chart that has all that there is, at least twice, and places everywhere. What it answers shares nothing with what it answered.
func full() Chart {
	place := 0
	at := func() api.Pos {
		place += 2
		return pos(place, place+1)
	}
	guarded := func(x string) On {
		return On{Event: "e" + x, Guard: bin(not(ref(x)), "<", neg(lit(3))), Target: "t" + x, Sets: []Set{{"n" + x, bin(ref(x), "+", lit(1))}, {"m" + x, lit(2)}}, At: at()}
	}
	plain := func(x string) On { return On{Event: "p" + x, Target: "q" + x, At: at()} }
	step := func(x string) State {
		return State{Name: x, At: at(), Do: "do" + x, Undo: "un" + x, Where: 3, Retries: 2, Ons: []On{guarded(x), plain(x)}}
	}
	inner := State{Name: "inner", At: at(), All: true, Ons: []On{plain("i"), guarded("j")}, Inner: []State{step("f"), step("g")}}
	return Chart{
		Name: "full", Version: 7, At: at(),
		Vars:   []Var{{Name: "nn", N: 4, At: at()}, {Name: "kk", N: -4, At: at()}},
		States: []State{step("a"), {Name: "outer", At: at(), Inner: []State{inner, step("h")}}, {Name: "z", At: at(), End: true, All: true}},
	}
}

// each thing that a chart has: its fields, its lists, and their members.
func eachThing(path string, v reflect.Value, visit func(path string, v reflect.Value)) {
	switch v.Kind() {
	case reflect.Struct:
		for i := range v.NumField() {
			eachThing(path+"."+v.Type().Field(i).Name, v.Field(i), visit)
		}
		return
	case reflect.Slice:
		for i := range v.Len() {
			eachThing(path+"["+strconv.Itoa(i)+"]", v.Index(i), visit)
		}
	}
	visit(path, v)
}

// otherwise is what could stand in v's stead, and isn't it.
func otherwise(v reflect.Value) []reflect.Value {
	var list []reflect.Value
	add := func(x any) { list = append(list, reflect.ValueOf(x).Convert(v.Type())) }
	switch v.Kind() {
	case reflect.String:
		add(v.String() + "x")
		if v.String() != "" {
			add("")
			add(v.String()[1:])
			add(strings.ToUpper(v.String()))
		}
	case reflect.Int, reflect.Int64:
		add(v.Int() + 1)
		add(v.Int() - 1)
		add(v.Int() + 1<<32)
		if v.Int() != 0 {
			add(0)
			add(-v.Int())
		}
	case reflect.Bool:
		add(!v.Bool())
	case reflect.Interface:
		for _, e := range otherExpressions(v) {
			list = append(list, reflect.ValueOf(&e).Elem())
		}
	case reflect.Slice:
		longer := reflect.MakeSlice(v.Type(), v.Len()+1, v.Len()+1)
		reflect.Copy(longer, v)
		list = append(list, longer)
		if v.Len() > 0 {
			twice := reflect.AppendSlice(longer.Slice(0, 0), v)
			list = append(list, reflect.Append(twice, v.Index(0)), v.Slice(0, v.Len()-1), v.Slice(1, v.Len()), reflect.Zero(v.Type()))
		}
		if v.Len() > 1 {
			turned := reflect.MakeSlice(v.Type(), v.Len(), v.Len())
			for i := range v.Len() {
				turned.Index(i).Set(v.Index(v.Len() - 1 - i))
			}
			list = append(list, turned)
		}
	}
	return list
}

// otherExpressions are such that differ from the one that v holds, in their kind, or deep inside.
func otherExpressions(v reflect.Value) []tree {
	list := []tree{lit(99), ref("other"), bin(ref("x"), "*", lit(2)), expr.Not{}}
	e, ok := v.Interface().(tree)
	if !ok {
		return list
	}
	list = append(list, nil, not(e), neg(e), bin(e, "+", e))
	if b, ok := e.(expr.Bin); ok {
		list = append(list, bin(b.L, "==", b.R), bin(b.R, b.Op, b.L), bin(b.L, b.Op, nil), bin(b.L, b.Op, lit(50)), bin(ref("z"), b.Op, b.R))
	}
	return list
}

// P6.2: charts that are alike, and charts that differ in one thing, for each thing that a chart has.
func TestSame(t *testing.T) {
	one, other := full(), full()
	things, changes := 0, 0
	alike := func(path string, want bool) {
		t.Helper()
		if Same(one, other) != want || Same(other, one) != want {
			t.Errorf("%s: not %v", path, want)
		}
	}
	alike("full", true)
	eachThing("full", reflect.ValueOf(&other).Elem(), func(path string, v reflect.Value) {
		things++
		was := reflect.New(v.Type()).Elem()
		was.Set(v)
		for _, x := range otherwise(v) {
			changes++
			v.Set(x)
			alike(fmt.Sprint(path, " ", x), false)
			v.Set(was)
		}
		alike(path, true)
	})
	if things < 150 || changes < 700 {
		t.Error(things, changes)
	}
}

// P6.2, R4: a Guard of nil is none, and lists of no elements are alike, nil or empty.
func TestSameNone(t *testing.T) {
	bare := Chart{States: []State{{Ons: []On{{}}, Inner: []State{{}}}}}
	empty := Chart{Vars: []Var{}, States: []State{{Ons: []On{{Guard: nil, Sets: make([]Set, 0, 5)}}, Inner: []State{{Ons: []On{}, Inner: []State{}}}}}}
	for _, pair := range [][2]Chart{{bare, empty}, {bare, bare}, {empty, empty}, {{}, {}}, {{}, {States: []State{}, Vars: make([]Var, 0, 3)}}} {
		if !Same(pair[0], pair[1]) || !Same(pair[1], pair[0]) {
			t.Error(pair)
		}
	}
	for _, s := range []string{"on e go b", "on e if 0 go b", "on e if x go b", "on e go b set x = 0", "on e go c"} {
		for _, other := range []string{"on e go b", "on e if 0 go b", "on e if x go b", "on e go b set x = 0", "on e go c"} {
			c, _, _ := Read(inState(s))
			d, _, _ := Read(inState(other))
			if Same(c, d) != (s == other) {
				t.Error(s, other)
			}
		}
	}
	if Same(bare, Chart{}) || Same(Chart{}, bare) {
		t.Error("a state is none")
	}
}

// P6.2: places count for Same, and for nothing else.
func TestSamePlaces(t *testing.T) {
	c, _, _ := Read(parts)
	moved, _, _ := Read(" " + parts)
	wide, _, no := Read(strings.ReplaceAll(parts, " ", "\n"))
	if no != api.OK || Same(c, moved) || Same(moved, wide) || Same(c, wide) {
		t.Error("places don't count")
	}
	if !Same(Strip(c), Strip(moved)) || !Same(Strip(wide), Strip(c)) || Same(c, Strip(c)) {
		t.Error("more than places counts")
	}
}

// P6.2, R1: other types, and expressions that aren't formed, can be asked too.
func TestSameStrange(t *testing.T) {
	for _, e := range append(others(), expr.Not{}, expr.Bin{}, lit(-1), ref("if"), bin(nil, "?", nil)) {
		guarded := Chart{States: []State{{Ons: []On{{Guard: e}}}}}
		setting := Chart{States: []State{{Inner: []State{{Ons: []On{{Sets: []Set{{To: e}}}}}}}}}
		want := expr.Same(e, e)
		if Same(guarded, guarded) != want || Same(setting, setting) != want || Same(guarded, setting) {
			t.Errorf("%T", e)
		}
		if Same(guarded, Chart{States: []State{{Ons: []On{{}}}}}) {
			t.Errorf("%T is none", e)
		}
	}
}

// withoutPlaces is c, each place of it zero, found by what kind of thing it is.
func withoutPlaces(c Chart) Chart {
	eachThing("c", reflect.ValueOf(&c).Elem(), func(path string, v reflect.Value) {
		if strings.HasSuffix(path, ".At.Line") || strings.HasSuffix(path, ".At.Col") {
			v.SetInt(0)
		}
	})
	return c
}

// P6.2: Strip of charts with places everywhere, and all else is as it was.
func TestStrip(t *testing.T) {
	want := shown(withoutPlaces(full()))
	got := Strip(full())
	if shown(got) != want {
		t.Errorf("%s, want %s", shown(got), want)
	}
	if strings.Count(want, "api.Pos{Line:0, Col:0}") != strings.Count(want, "api.Pos") || !strings.Contains(shown(full()), "api.Pos{Line:2, Col:3}") {
		t.Error("the chart tells little")
	}
	if shown(Strip(got)) != want || !Same(got, Strip(full())) || Same(got, full()) {
		t.Error("Strip of what has no places")
	}
	var w writer
	for range 200 {
		w.text = ""
		c := w.chart()
		if shown(Strip(c)) != shown(withoutPlaces(chartOf(t, w.text))) {
			t.Error(w.text)
		}
	}
	for _, c := range []Chart{{}, {At: pos(-1, math.MaxInt)}, {Vars: []Var{{At: pos(0, 1)}}, States: []State{{At: pos(1, 0), Ons: []On{{At: pos(-5, 0)}}}}}} {
		stripped := Strip(c)
		if shown(stripped) != shown(withoutPlaces(c)) {
			t.Errorf("%#v", stripped)
		}
	}
}

// chartOf is the chart of a text that is one, in memory of its own.
func chartOf(t *testing.T, s string) Chart {
	t.Helper()
	c, at, no := Read(s)
	if no != api.OK {
		t.Fatal(s, at, no)
	}
	return c
}

// P6.2: a Guard of nil stays none, and other types, and expressions that aren't formed, stay what they were.
func TestStripStrange(t *testing.T) {
	list := append(others(), nil, expr.Not{}, expr.Neg{}, expr.Bin{}, lit(-1), lit(math.MaxInt64), ref(""), ref("if"), bin(nil, "?", &loud{}), not(neg(&expr.Lit{})), bin(likeLit{3}, "+", holdsLit{}))
	for _, e := range list {
		c := Strip(Chart{States: []State{{Ons: []On{{Guard: e, Sets: []Set{{To: e}}}}}}})
		on := c.States[0].Ons[0]
		if on.Guard != e || on.Sets[0].To != e {
			t.Errorf("%#v: %#v", e, on)
		}
	}
}

// P6.2, R1: expressions of many parts stay what they were, those too whose parts are shared so that they are far larger than their memory.
func TestStripLarge(t *testing.T) {
	for _, n := range []int{1, 10, 11, 12, 38, 39, 40, 41, 1 << 16} {
		e := lit(1)
		for range n {
			e = not(e)
		}
		c := Strip(Chart{States: []State{{Ons: []On{{Guard: e, Sets: []Set{{To: e}}}}}}})
		if on := c.States[0].Ons[0]; !expr.Same(on.Guard, e) || !expr.Same(on.Sets[0].To, e) {
			t.Error(n)
		}
	}
	e := ref("x")
	for range 60 {
		e = bin(e, "+", e)
	}
	on := Strip(Chart{At: pos(1, 1), States: []State{{Ons: []On{{Guard: e, At: pos(2, 2)}}}}}).States[0].Ons[0]
	for range 60 {
		b, ok := on.Guard.(expr.Bin)
		if !ok || b.Op != "+" {
			t.Fatal(on.Guard)
		}
		on.Guard = b.R
	}
	if on.Guard != ref("x") || on.At != (api.Pos{}) {
		t.Error(on)
	}
}

// deepChart is a chart whose states lie n deep in one another.
func deepChart(n int) Chart {
	var list []State
	for i := range n {
		list = []State{{Name: "s" + strconv.Itoa(i), At: pos(i, i), Inner: list}}
	}
	return Chart{Name: "deep", States: list}
}

// P6.2, R1: states that lie deep in one another, and many beside one another.
func TestHuge(t *testing.T) {
	const n = 1 << 16
	one, other := deepChart(n), deepChart(n)
	if !Same(one, other) || Same(one, deepChart(n-1)) || Same(deepChart(n+1), one) {
		t.Error("Same")
	}
	stripped := Strip(one)
	list, count := stripped.States, 0
	for len(list) == 1 {
		if list[0].Name != "s"+strconv.Itoa(n-1-count) || list[0].At != (api.Pos{}) {
			t.Fatal(count, list[0].Name, list[0].At)
		}
		list = list[0].Inner
		count++
	}
	if count != n || len(list) != 0 || !Same(one, other) || Same(stripped, one) {
		t.Error(count)
	}
	wide := Chart{Vars: make([]Var, n), States: make([]State, n)}
	wide.States[n-1] = State{Ons: make([]On, n), Inner: make([]State, n)}
	wide.States[n-1].Ons[n-1] = On{Sets: make([]Set, n), At: pos(1, 2)}
	wide.States[n-1].Inner[n-1].At = pos(3, 4)
	bare := Strip(wide)
	if Same(wide, bare) || len(bare.States[n-1].Ons[n-1].Sets) != n || bare.States[n-1].Inner[n-1].At != (api.Pos{}) {
		t.Error("Strip")
	}
	bare.States[n-1].Ons[n-1].At = pos(1, 2)
	bare.States[n-1].Inner[n-1].At = pos(3, 4)
	if !Same(wide, bare) {
		t.Error("Same")
	}
	// Texts that are all of one word, as many as there may be.
	for _, w := range universe {
		at := pos(1, 1)
		if w == "chart" {
			at = pos(1, 7)
		}
		wantFaultAt(t, strings.Repeat(w+" ", min(api.MaxWords, api.MaxSource/(len(w)+1))), at, api.ErrSyntax)
	}
	wantFault(t, "chart c 1 { state a { on e if "+strings.Repeat("(", 2900)+"@", api.ErrSyntax)
	wantFault(t, "chart c 1 { state a { on e if @"+strings.Repeat("-", 2900)+"1", api.ErrDeep)
	wantFault(t, "chart c 1 { state a { on e if "+strings.Repeat("-", 2900)+"@", api.ErrSyntax)
}

// R1, R5: whatever the text, no call panics, and what is answered belongs together.
func wantSound(t *testing.T, s string) {
	c, at, no := Read(s)
	words, wordsAt, wordsNo := glyph.Words(s)
	if wordsNo != api.OK {
		wantFaultAt(t, s, wordsAt, wordsNo)
		return
	}
	var list []string
	for _, w := range words {
		list = append(list, w.Text)
	}
	n, want := faultOf(list)
	if no != want {
		t.Errorf("Read(%q): %v, want %v", s, no, want)
	}
	switch {
	case want == api.OK && (at != (api.Pos{}) || !Same(c, c) || Same(c, Strip(c)) || c.Name != list[1] || c.At != words[1].At):
		t.Errorf("Read(%q) = %s %v", s, shown(c), at)
	case want == api.OK:
		return
	case n < len(words):
		wantFaultAt(t, s, words[n].At, want)
	default:
		wantFaultAt(t, s, glyph.End(s), want)
	}
}

// R1, P6.1: texts of any kind.
func FuzzRead(f *testing.F) {
	for _, s := range []string{"", "chart", parts, "chart a 1 { }", "chart a 1 { } x", inState("all end"), inState("on x if go c"), inState("on x if !!!!!!!!!!!!1 go c"), "chart a 1 { " + nested(7, "") + " }", "chart я 1 { var n = 01 }", "\xff", "# chart", inState("on x if a < b < c go d"), inState("do x undo y at 1 retries 2 on done go z set x = -(y)")} {
		f.Add(s)
	}
	f.Fuzz(wantSound)
}

// R1, P6.1: rows of words that begin as charts do, and go on anyhow.
func TestReadAnyhow(t *testing.T) {
	var d dice
	for range 20000 {
		words := strings.Fields(parts)
		words = words[:d.upTo(len(words))]
		for range d.upTo(8) {
			words = append(words, universe[d.upTo(len(universe))])
		}
		wantSound(t, strings.Join(words, " "))
		for range d.upTo(20) {
			words = append(words, parts[d.upTo(len(parts)):][:1])
		}
		wantSound(t, strings.Join(words, " "))
	}
}

// R2, R5: what is asked once more is answered alike, errors between or not.
func TestNothingIsKept(t *testing.T) {
	want, _, _ := Read(parts)
	for range 3 {
		wantRead(t, parts, want)
		wantFault(t, "chart c 1 { @x", api.ErrSyntax)
		wantFault(t, "chart c @&", api.ErrWord)
		wantFault(t, inState("on e if @!!!!!!!!!!!!1 go b"), api.ErrDeep)
		if !Same(want, want) || Same(want, Strip(want)) || !Same(Strip(want), Strip(want)) {
			t.Error("Same, Strip")
		}
		wantRead(t, "chart c 1 { }", Chart{Name: "c", Version: 1, At: pos(1, 7)})
	}
}

// scramble changes all that can be changed of a chart in place, the spare room of its lists too.
func scramble(c *Chart) {
	eachThing("c", reflect.ValueOf(c).Elem(), func(_ string, v reflect.Value) {
		if v.Kind() == reflect.Slice {
			room := v.Slice(0, v.Cap())
			for i := v.Len(); i < v.Cap(); i++ {
				eachThing("room", room.Index(i), func(_ string, x reflect.Value) { x.Set(otherwise(x)[0]) })
			}
			return
		}
		v.Set(otherwise(v)[0])
	})
}

// roomy gives each list of a chart spare room, with something in it.
func roomy(c *Chart) {
	eachThing("c", reflect.ValueOf(c).Elem(), func(_ string, v reflect.Value) {
		if v.Kind() != reflect.Slice {
			return
		}
		list := reflect.MakeSlice(v.Type(), v.Len()+3, v.Len()+3)
		reflect.Copy(list, v)
		for i := v.Len(); i < list.Len(); i++ {
			eachThing("room", list.Index(i), func(_ string, x reflect.Value) { x.Set(otherwise(x)[0]) })
		}
		v.Set(list.Slice(0, v.Len()))
	})
}

// rooms is what stands in the lists of a chart, their spare room too.
func rooms(c Chart) string {
	s := ""
	eachThing("c", reflect.ValueOf(&c).Elem(), func(path string, v reflect.Value) {
		if v.Kind() == reflect.Slice {
			s += path + fmt.Sprintf("%#v\n", v.Slice(0, v.Cap()).Interface())
		}
	})
	return s
}

// R3: what is handed in is left as it is, its spare room too.
func TestChartsAreLeft(t *testing.T) {
	c, d := full(), full()
	roomy(&c)
	roomy(&d)
	before := shown(c) + rooms(c)
	if rooms(c) == rooms(full()) {
		t.Fatal("there is no spare room")
	}
	if !Same(c, d) || shown(Strip(c)) != shown(withoutPlaces(full())) {
		t.Error("the spare room counts")
	}
	d.States[2].End = false
	if Same(c, d) || shown(c)+rooms(c) != before {
		t.Error("changed")
	}
}

// R3: what Strip answers has nothing of what was handed in.
func TestStripIsNew(t *testing.T) {
	c := full()
	roomy(&c)
	stripped := Strip(c)
	want := shown(stripped)
	given := map[*byte]string{}
	eachText(c, func(path, s string) { given[unsafe.StringData(s)] = path })
	eachText(stripped, func(path, s string) {
		if from := given[unsafe.StringData(s)]; from != "" {
			t.Error(path, "is the memory of", from)
		}
	})
	if len(given) < 30 {
		t.Error(len(given))
	}
	before := shown(c) + rooms(c)
	scramble(&stripped)
	if shown(c)+rooms(c) != before || shown(stripped) == want {
		t.Error("what was handed in changes with the answer")
	}
	again := Strip(c)
	scramble(&c)
	if shown(again) != want {
		t.Error("the answer changes with what was handed in")
	}
}

// eachText visits the texts of a chart, those of its expressions too, but for empty ones and those of one byte: their memory may be anyone's.
func eachText(c Chart, visit func(path, s string)) {
	var inside func(path string, e tree)
	see := func(path, s string) {
		if len(s) > 1 {
			visit(path, s)
		}
	}
	inside = func(path string, e tree) {
		switch x := e.(type) {
		case expr.Ref:
			see(path, x.Name)
		case expr.Not:
			inside(path, x.X)
		case expr.Neg:
			inside(path, x.X)
		case expr.Bin:
			see(path, x.Op)
			inside(path, x.L)
			inside(path, x.R)
		}
	}
	eachThing("c", reflect.ValueOf(&c).Elem(), func(path string, v reflect.Value) {
		if v.Kind() == reflect.String {
			see(path, v.String())
		} else if e, ok := v.Interface().(tree); ok {
			inside(path, e)
		}
	})
}

// R3: an expression of Strip's has texts of its own.
func TestStripExpressionsAreNew(t *testing.T) {
	name, op := strings.Clone("name"), strings.Clone("<=")
	e := not(neg(bin(ref(name), op, ref(name))))
	c := Strip(Chart{States: []State{{Ons: []On{{Guard: e, Sets: []Set{{To: e}}}}}}})
	count := 0
	eachText(c, func(path, s string) {
		count++
		if unsafe.StringData(s) == unsafe.StringData(name) || unsafe.StringData(s) == unsafe.StringData(op) {
			t.Error(path, s)
		}
	})
	if count != 6 {
		t.Error(count)
	}
}

// R3: what Read answers has nothing of the text, and no two of its lists share any memory.
func TestReadIsNew(t *testing.T) {
	text := []byte(parts)
	c, _, no := Read(unsafe.String(&text[0], len(text)))
	want := shown(c)
	for i := range text {
		text[i] = '#'
	}
	if no != api.OK || shown(c) != want || !Same(c, chartOf(t, parts)) {
		t.Error("the answer changes with the text")
	}
	wantOwnRooms(t, chartOf(t, parts))
	wantOwnRooms(t, Strip(chartOf(t, parts)))
}

// wantOwnRooms fails unless each list of a chart can be filled to its end without changing another one.
func wantOwnRooms(t *testing.T, c Chart) {
	t.Helper()
	want := shown(c)
	eachThing("c", reflect.ValueOf(&c).Elem(), func(path string, v reflect.Value) {
		if v.Kind() != reflect.Slice {
			return
		}
		room := v.Slice(0, v.Cap())
		for i := v.Len(); i < v.Cap(); i++ {
			eachThing("room", room.Index(i), func(_ string, x reflect.Value) { x.Set(otherwise(x)[0]) })
		}
		if shown(c) != want {
			t.Error("the spare room is another list's:", path)
		}
	})
}
