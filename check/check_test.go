package check

import (
	"fmt"
	"math"
	"reflect"
	"slices"
	"strconv"
	"strings"
	"testing"
	"unicode/utf8"
	"unsafe"

	"tumbrel/api"
	"tumbrel/chart"
	"tumbrel/expr"
	"tumbrel/show"
)

// Short to write.
type (
	Chart = chart.Chart
	Var   = chart.Var
	State = chart.State
	On    = chart.On
	Set   = chart.Set
)

func lit(n int64) expr.Expr     { return expr.Lit{N: n} }
func ref(name string) expr.Expr { return expr.Ref{Name: name} }
func pos(line, col int) api.Pos { return api.Pos{Line: line, Col: col} }

// todo is a step that is right, and last a state that each on may go to from states that lie in none.
const (
	todo = "do x undo y at 0 retries 0 "
	last = "state z { end } "
)

// roundsInOrder is the errors in the order of their rounds.
var roundsInOrder = []api.Errno{api.ErrLong, api.ErrName, api.ErrRange, api.ErrNone, api.ErrLeaf, api.ErrTarget, api.ErrBack}

// in is a chart with that in it.
func in(s string) string {
	return "chart c 1 { " + s + "}"
}

// loud is another type than those of expressions, and can't be asked.
type loud struct{}

func (loud) Kind() int { panic("asked") }

// mark is the place of the mark, @, in a text, and the text without it.
func mark(t *testing.T, s string) (string, api.Pos) {
	t.Helper()
	ahead, behind, ok := strings.Cut(s, "@")
	if !ok || strings.Contains(behind, "@") {
		t.Fatalf("%q hasn't one mark", s)
	}
	line := ahead[strings.LastIndexByte(ahead, '\n')+1:]
	return ahead + behind, pos(1+strings.Count(ahead, "\n"), 1+utf8.RuneCountInString(line))
}

// wantCheck fails unless Check answers that, and Right accords with it.
func wantCheck(t *testing.T, why any, c Chart, at api.Pos, no api.Errno) {
	t.Helper()
	gotAt, gotNo := Check(c)
	if gotAt != at || gotNo != no {
		t.Errorf("%.600v: %v %v, want %v %v", why, gotAt, gotNo, at, no)
	}
	if Right(c) != (no == api.OK) {
		t.Errorf("%.600v: Right is %v", why, Right(c))
	}
}

// wantRight fails unless the chart of that text is right, and Compile answers it.
func wantRight(t *testing.T, s string) {
	t.Helper()
	c, at, no := chart.Read(s)
	if no != api.OK {
		t.Fatalf("%.600s: %v %v", s, at, no)
	}
	wantCheck(t, s, c, api.Pos{}, api.OK)
	got, at, no := Compile(s)
	if no != api.OK || at != (api.Pos{}) || !chart.Same(got, c) {
		t.Errorf("Compile(%.600s) = %v %v %v", s, got, at, no)
	}
}

// wantRefusedAt fails unless Compile answers that error there, and nothing beside.
func wantRefusedAt(t *testing.T, s string, at api.Pos, no api.Errno) {
	t.Helper()
	c, gotAt, gotNo := Compile(s)
	if gotAt != at || gotNo != no || !chart.Same(c, Chart{}) {
		t.Errorf("Compile(%.600s) = %v %v %v, want %v %v", s, c, gotAt, gotNo, at, no)
	}
}

// wantFault fails unless the chart of that text is refused at its mark.
func wantFault(t *testing.T, marked string, no api.Errno) {
	t.Helper()
	s, at := mark(t, marked)
	c, readAt, readNo := chart.Read(s)
	if readNo != api.OK {
		t.Fatalf("%.600s: %v %v", s, readAt, readNo)
	}
	wantCheck(t, marked, c, at, no)
	wantRefusedAt(t, s, at, no)
	// Without places there are none to tell, and the error is the same.
	wantCheck(t, marked, chart.Strip(c), api.Pos{}, no)
}

// many is n texts, with %d as their numbers from 0 on.
func many(n int, format string) string {
	s := ""
	for i := range n {
		s += strings.ReplaceAll(format, "%d", strconv.Itoa(i))
	}
	return s
}

// P8.1: the chapter's example, and a chart that has all that there is.
func TestExamples(t *testing.T) {
	wantFault(t, in("state A { do x undo y at 0 retries 0 on @done go A } "), api.ErrBack)
	wantRight(t, full)
	wantRight(t, "chart pay 1 { var n = 0 state A { do take undo give at 0 retries 2 on done if n < 3 go B set n = n + 1 } state B { end } }")
}

// full is a chart that is right, and has all that a chart may have.
const full = `chart full 7 {
	var n = 0
	var k = -5
	state a {
		do take undo give at 3 retries 5
		on done if n < 3 && !k go b set n = n + 1 set k = -n
		on stop go z
		on again if k go a
	}
	state b {
		all
		on stop go a
		on fresh if n go b set n = 0
		state c {
			on up go z
			state d {
				do xx undo yy at 1 retries 0
				on done go e
				on out go d
			}
			state e {
				end
			}
		}
		state f {
			state f1 {
				do p undo q at 0 retries 1
				on done if k == n go f2 set k = k * 2
				on done go z
			}
			state f2 {
				end
			}
		}
	}
	state g {
		state h {
			all
			on fresh go h
			state i {
				end
			}
			state j {
				do r undo s at 2 retries 2
				on done go z
				on back go a
			}
		}
	}
	state z {
		end
	}
}
`

// P8.1: what is right, at its edges.
func TestRight(t *testing.T) {
	for _, s := range []string{
		"state a { end } ",
		"state a { " + todo + "} ",
		"state a { state b { end } } ",
		"state a { state b { state c { state d { state e { state f { end } } } } } } ",
		"state a { all state b { end } state c { end } } ",
		"state a { all state b { " + todo + "} state c { end } state d { end } } ",
		// Names of states, variables, steps, events and the chart don't meet.
		"var c = 1 var a = 2 state c { do c undo c at 0 retries 0 on c if a go a set c = a } state a { end } ",
		"var a = 1 var A = 2 state a { end } state A { end } state а { end } ",
		// Steps at their edges.
		"state a { do x undo y at 3 retries 5 } ",
		"state a { do x undo x at 0 retries 0 on done go b } state b { do x undo x at 3 retries 0 } ",
		// Ons of states that aren't leaves, and of all.
		"state a { on e go a state b { end } } ",
		"state a { all on e go z state b { end } state c { end } } " + last,
		// An event may have a name that holds done.
		"state a { on Done go a on done1 go a on undone go a state b { end } } ",
		// Two ons of done in one state, and two of another event.
		"state a { " + todo + "on done go z on e go a on done go z on e go z } " + last,
		// All twice, and all deep within others, but not within all.
		"state a { all state b { end } state c { end } } state d { all state e { end } state f { end } } ",
		"state o { state a { state a1 { all state b { end } state c { end } } } state d { all state e { end } state f { end } } } ",
	} {
		wantRight(t, in(s))
	}
}

// P8.1: ErrLong of variables, at the one that is one too many.
func TestTooManyVars(t *testing.T) {
	for n := range api.MaxVars + 1 {
		wantRight(t, in(many(n, "var v%d = 1 ")+last))
	}
	eight := many(api.MaxVars, "var v%d = 1 ")
	wantFault(t, in(eight+"var @v = 1 "+last), api.ErrLong)
	wantFault(t, in(eight+"var @v = 1 "+many(20, "\nvar w%d = 1 ")+last), api.ErrLong)
	// Ahead of anything about states, and of the chart.
	wantFault(t, in(eight+"var @v = 1 var w = 2 "), api.ErrLong)
	wantFault(t, in(eight+"var @v = 1 "+many(41, "state s%d { end } ")), api.ErrLong)
	wantFault(t, in(eight+"var @v0 = 1 state a { "+many(7, "on e%d go a set q = 1 ")+" } "), api.ErrLong)
}

// P8.1: ErrLong of states, at the one that is one too many, wherever it lies; and of the chart, if there is none.
func TestTooManyStates(t *testing.T) {
	for _, n := range []int{1, 2, 39, 40} {
		wantRight(t, in(many(n, "state s%d { end } ")))
	}
	wantFault(t, "chart @c 1 { }", api.ErrLong)
	wantFault(t, "\n chart\n  @ж 0 { var n = 1 var n = 2 }", api.ErrLong)
	wantFault(t, in(many(40, "state s%d { end } ")+"state @s { end } "), api.ErrLong)
	wantFault(t, in(many(40, "state s%d { end }\n")+"state @s { end } "+many(30, "state t%d { end }\n")), api.ErrLong)
	// States that lie in others count.
	wantRight(t, in("state o { "+many(39, "state s%d { end } ")+"} "))
	wantRight(t, in("state o { state p { "+many(37, "state s%d { end } ")+"} } state z { end } "))
	wantFault(t, in("state o { "+many(39, "state s%d { end } ")+"state @z { end } } "), api.ErrLong)
	wantFault(t, in("state o { "+many(39, "state s%d { end } ")+"} state @z { end } "), api.ErrLong)
	wantFault(t, in(many(20, "state s%d { state t%d { end } } ")+"state @z { state y { end } } "), api.ErrLong)
	wantFault(t, in("state s { end } "+many(19, "state s%d { state t%d { end } } ")+"state y { state @z { end } } "), api.ErrLong)
	wantFault(t, in(many(35, "state s%d { end } ")+"state a { state b { state d { state e { state f { state @g { end } } } } } } "), api.ErrLong)
	wantRight(t, in(many(34, "state s%d { end } ")+"state a { state b { state d { state e { state f { state g { end } } } } } } "))
}

// P8.1: ErrLong of ons and of sets.
func TestTooManyOns(t *testing.T) {
	for n := range api.MaxOns + 1 {
		wantRight(t, in("state a { "+todo+many(n, "on e go z ")+"} "+last))
		wantRight(t, in("state a { "+many(n, "on e go z ")+"state b { end } "+many(api.MaxOns-n, "on e go z ")+"} "+last))
	}
	for n := range api.MaxSets + 1 {
		wantRight(t, in("var n = 1 state a { "+todo+"on e go z "+many(n, "set n = %d ")+"} "+last))
	}
	six := many(api.MaxOns, "on e go z ")
	wantFault(t, in("state a { "+todo+six+"on @e go z } "+last), api.ErrLong)
	wantFault(t, in("state a { "+todo+six+"on @e go z on f go z on g go z } "+last), api.ErrLong)
	wantFault(t, in("state a { on e go z on e go z on e go z state b { end } on e go z on e go z on e go z on @e go z } "+last), api.ErrLong)
	wantFault(t, in("state o { "+six+"state a { "+todo+six+"on @f go z } } "+last), api.ErrLong)
	wantRight(t, in("state o { "+six+"state a { "+todo+six+"} } "+last))
	four := many(api.MaxSets, "set n = %d ")
	wantFault(t, in("var n = 1 state a { "+todo+"on e go z "+four+"on @f go z "+four+"set n = 4 } "+last), api.ErrLong)
	wantFault(t, in("var n = 1 state a { "+todo+"on @f go z "+many(300, "set n = 4 ")+"on e go z "+four+"set n = 5 } "+last), api.ErrLong)
	wantFault(t, in("var n = 1 state o { state a { "+todo+"on e go z on @f if n go z "+four+"set n = 4 } } "+last), api.ErrLong)
}

// P8.1: within the round of ErrLong, the first one in the order of the text.
func TestTooManyInOrder(t *testing.T) {
	const five = "set n = 1 set n = 1 set n = 1 set n = 1 set n = 1 "
	six := many(api.MaxOns, "on e go z ")
	for _, s := range []string{
		// An on ahead of a state, and a state ahead of an on.
		"state a { " + todo + six + "on @e go z } " + many(50, "state s%d { end } "),
		many(39, "state s%d { end } ") + "state a { " + todo + six + "on @e go z } state b { end } ",
		many(40, "state s%d { end } ") + "state @a { " + todo + six + "on e go z } ",
		many(40, "state s%d { end } ") + "state @a { " + todo + "on e go z " + five + "} ",
		many(39, "state s%d { end } ") + "state a { " + todo + "on @e go z " + five + "} state b { end } ",
		// An on with too many sets, and one that is one too many.
		"state a { " + todo + six + "on @e go z on f go z " + five + "} ",
		"state a { " + todo + "on e go z on @e go z " + five + six + "} ",
		"state a { " + todo + "on e go z on @e go z " + five + "on e go z " + five + "} ",
		"state a { " + todo + six + "on @e go z " + five + "} ",
		// A state's ons ahead of those of the states that lie in it, and of those behind it.
		"state a { " + six + "on @e go z state b { " + todo + six + "on e go z } } ",
		"state a { state b { " + todo + six + "on e go z } " + six + "on @e go z } ",
		"state a { state b { " + todo + six + "on e go z } on @e go z " + five + "} ",
		"state a { state b { " + todo + six + "on @e go z } } state d { " + todo + six + "on e go z } ",
		"state a { " + todo + "on @e go z " + five + "} state d { " + todo + six + "on e go z } ",
	} {
		wantFault(t, in(s), api.ErrLong)
	}
}

// P8.1: ErrName at the second one of a NAME, wherever it lies.
func TestNamedTwice(t *testing.T) {
	for _, s := range []string{
		"var a = 1 var @a = 2 " + last,
		"var a = 1 var b = 1 var @a = 1 var a = 3 var b = 4 " + last,
		"var a = 1 var b = 1 var @b = 1 var a = 3 " + last,
		many(7, "var v%d = 1 ") + "var @v0 = 1 " + last,
		many(7, "var v%d = 1 ") + "var @v6 = 1 " + last,
		"var ж = 1 var @ж = 2 " + last,
		"state a { end } state @a { end } ",
		"state a { end } state b { end } state @b { end } state a { end } ",
		"state a { end } state b { end } state @a { end } state a { end } state b { end } ",
		"state a { state @a { end } } ",
		"state a { state b { state @a { end } } } state b { end } ",
		"state a { state b { end } state @b { end } } ",
		"state a { state b { end } } state d { state @b { end } } ",
		"state a { state b { end } } state @b { end } ",
		"state a { state b { end } } state @a { state b { end } } ",
		"state a { state b { state d { end } } } state e { state f { state @d { end } } } ",
		"state a { all state b { end } state @b { end } } ",
		many(39, "state s%d { end } ") + "state @s0 { end } ",
		many(39, "state s%d { end } ") + "state @s38 { end } ",
		// Variables ahead of states.
		"var a = 1 var @a = 2 state b { end } state b { end } ",
		"var b = 1 state b { end } state @b { end } ",
	} {
		wantFault(t, in(s), api.ErrName)
	}
}

// P8.1: ErrRange of a step's numbers, at its state.
func TestOutOfRange(t *testing.T) {
	for where := range api.Participants {
		for retries := range api.MaxRetries + 1 {
			wantRight(t, in(fmt.Sprintf("state a { do x undo y at %d retries %d } ", where, retries)))
		}
	}
	for _, where := range []int{api.Participants, api.Participants + 1, 100, api.MaxInt} {
		for _, retries := range []int{0, api.MaxRetries, api.MaxRetries + 1, api.MaxInt} {
			wantFault(t, in(fmt.Sprintf("state @a { do x undo y at %d retries %d } ", where, retries)), api.ErrRange)
		}
	}
	for _, retries := range []int{api.MaxRetries + 1, api.MaxRetries + 2, 100, api.MaxInt} {
		wantFault(t, in(fmt.Sprintf("state a { state @b { do x undo y at 3 retries %d } } ", retries)), api.ErrRange)
	}
	for _, s := range []string{
		"state a { do x undo y at 3 retries 5 } state @b { do x undo y at 0 retries 6 } state d { do x undo y at 4 retries 0 } ",
		"state a { do x undo y at 3 retries 5 } state @b { do x undo y at 4 retries 0 } state d { do x undo y at 0 retries 6 } ",
		"state o { state a { " + todo + "} state @b { do x undo y at 4 retries 0 } } state d { do x undo y at 4 retries 0 } ",
		"state @a { do x undo y at 4 retries 0 state b { do x undo y at 4 retries 0 } } ",
	} {
		wantFault(t, in(s), api.ErrRange)
	}
}

// P8.1: ErrNone of a Ref in a guard, in a set, and of a set's name, at the on.
func TestUnknown(t *testing.T) {
	for _, s := range []string{
		"on @e if q go z ",
		"on @e if n && !-(1 + q * 2) < 3 go z ",
		"on @e if 0 && q go z ",
		"on @e if z go z ",
		"on @e if e go z ",
		"on @e if a go z ",
		"on @e if N go z ",
		"on @e go z set q = 1 ",
		"on @e go z set n = q ",
		"on @e go z set n = n + k * -(n < q) ",
		"on @e go z set n = 1 set k = 2 set n = 3 set q = 4 ",
		"on @e go z set n = 1 set k = 2 set n = 3 set k = q ",
		"on @e go z set q = q ",
		"on @e go z set q = 1 set n = q ",
		"on @e if q go z set q = q ",
		"on @done if q go z ",
		// Of several ons the first one.
		"on d if n go z set n = k on @e if q go z on f go z set q = 1 ",
		"on d if n go z set n = k on @e go z set q = 1 on f if q go z ",
	} {
		wantFault(t, in("var n = 1 var k = 2 state a { "+todo+s+"} "+last), api.ErrNone)
		wantFault(t, in("var n = 1 var k = 2 state o { state y { end } state a { "+todo+s+"} } "+last), api.ErrNone)
	}
	wantFault(t, in("state a { "+todo+"on @e if n go z } "+last), api.ErrNone)
	wantFault(t, in("state a { "+todo+"on @e go z set n = 1 } "+last), api.ErrNone)
	wantRight(t, in("state a { "+todo+"on e if 1 < 2 go z } "+last))
	wantRight(t, in(many(8, "var v%d = 1 ")+"state a { "+todo+"on e if v0 + v7 go z set v7 = v0 set v0 = v7 } "+last))
	// A state's ons ahead of those of states that lie in it.
	wantFault(t, in("state o { state a { "+todo+"on e if q go z } on @e if q go z } "+last), api.ErrNone)
	wantFault(t, in("state o { state a { "+todo+"on @e if q go z } } state b { "+todo+"on e if q go z } "+last), api.ErrNone)
}

// P8.1: ErrLeaf of leaves that are nothing, of states that aren't leaves with a step or as ends, and of ends with ons, at the state.
func TestMisplaced(t *testing.T) {
	for _, s := range []string{
		"state @a { } ",
		"state @a { on e go z } ",
		"state @a { on done go z } ",
		"state a { end } state @b { } state d { } ",
		"state a { state @b { } } ",
		"state a { state b { state d { state e { state f { state @g { } } } } } } ",
		"state @a { end state b { end } } ",
		"state @a { end state b { } } ",
		"state a { state @b { end state d { end } } } ",
		"state @a { " + todo + "state b { end } } ",
		"state @a { " + todo + "on done go z state b { end } } ",
		"state a { state @b { " + todo + "state d { end } } } ",
		"state @a { end on e go z } ",
		"state @a { end on done go z } ",
		"state a { state @b { end on e go z } } ",
		"state @a { end on e go z state b { end } } ",
		// The order of the text.
		"state @a { } state b { end on e go a } ",
		"state b { end } state @a { end on e go b } state d { } ",
		"state @a { end state b { } state d { end on e go a } } ",
	} {
		wantFault(t, in(s+last), api.ErrLeaf)
	}
}

// P8.1: ErrLeaf of states with all: of fewer than two states right in it, and of others with all that lie in it, at the state with all.
func TestMisplacedAll(t *testing.T) {
	for _, s := range []string{
		"state @a { all } ",
		"state @a { all on e go z } ",
		"state @a { all state b { end } } ",
		"state @a { all state b { state d { end } state e { end } } } ",
		"state @a { all state b { } } ",
		"state o { state @a { all state b { end } } } ",
		"state a { all state b { end } state d { end } } state @e { all state f { end } } ",
		"state @a { all state b { all state d { end } state e { end } } state f { end } } ",
		"state @a { all state b { end } state f { all state d { end } state e { end } } } ",
		"state @a { all state b { end } state d { end } state f { all state e { end } } } ",
		"state @a { all state b { state d { all state e { end } state f { end } } } state g { end } } ",
		"state @a { all state g { end } state b { state h { end } state d { state i { end } state e { all state f { end } state j { end } } } } } ",
		"state o { state @a { all state b { all state d { end } state e { end } } state f { end } } } ",
	} {
		wantFault(t, in(s+last), api.ErrLeaf)
	}
}

// P8.1: ErrLeaf of an on of done without a step, at the on; of a state itself ahead of its ons.
func TestDoneWithoutStep(t *testing.T) {
	for _, s := range []string{
		"state a { on @done go z state b { end } } ",
		"state a { on e go z on @done go z on done go z state b { end } on done go z } ",
		"state a { all on @done go z state b { end } state d { end } } ",
		"state a { state b { on @done go z state d { end } } } ",
		"state a { on @done go z state b { } } ",
		"state a { state b { } on @done go z } ",
		"state a { on @done go z state b { end on e go z } } ",
		"state @a { all on done go z state b { end } } ",
		"state @a { " + todo + "on done go z state b { end } } ",
		"state a { " + todo + "on done go z } state b { on @done go z state d { end } } ",
	} {
		wantFault(t, in(s+last), api.ErrLeaf)
	}
}

// P8.1: ErrTarget of a target that is no state.
func TestNoTarget(t *testing.T) {
	for _, s := range []string{
		"on @e go q ",
		"on @done go q ",
		"on @e go c ",
		"on @e go n ",
		"on @e go x ",
		"on @e go Z ",
		"on e go z on @f go q on g go q ",
		"on e go z on f go a on @done go e ",
	} {
		wantFault(t, in("var n = 1 state a { "+todo+s+"} "+last), api.ErrTarget)
		wantFault(t, in("var n = 1 state o { state a { "+todo+s+"} } "+last), api.ErrTarget)
	}
	wantFault(t, in("state o { on @e go q state a { "+todo+"on e go q } } "+last), api.ErrTarget)
	wantFault(t, in("state o { state a { "+todo+"on e go q } on @e go q } "+last), api.ErrTarget)
}

// between is a chart with a state with all, b, in o; in it d, with d1 and d2, f, a step, and g, with g1 that has g2 and g3. What is given stands in the state of that name.
func between(name, on string) string {
	s := "state a { do x undo y at 0 retries 0 <a> } state o { <o> state b { all <b> " +
		"state d { <d> state d1 { do x undo y at 0 retries 0 <d1> } state d2 { do x undo y at 0 retries 0 <d2> } } " +
		"state f { do x undo y at 0 retries 0 <f> } " +
		"state g { <g> state g1 { <g1> state g2 { do x undo y at 0 retries 0 <g2> } state g3 { do x undo y at 0 retries 0 <g3> } } } } " +
		"state p { do x undo y at 0 retries 0 <p> } } "
	for _, x := range strings.Fields("a o b d d1 d2 f g g1 g2 g3 p") {
		insert := ""
		if x == name {
			insert = on
		}
		s = strings.ReplaceAll(s, "<"+x+">", insert)
	}
	return in(s + last)
}

// P8.1: ErrTarget of an on that leaps, from each state to each.
func TestLeaps(t *testing.T) {
	// In b lie, beside each other, these three groups.
	group := map[string]int{"d": 1, "d1": 1, "d2": 1, "f": 2, "g": 3, "g1": 3, "g2": 3, "g3": 3}
	top := map[string]bool{"d": true, "f": true, "g": true}
	names := strings.Fields("a o b d d1 d2 f g g1 g2 g3 p z")
	leaps := 0
	for _, from := range names[:len(names)-1] {
		for _, to := range names {
			// b is the innermost one that both lie in if their groups aren't one, or one of them is right in b: its group then is it.
			if group[from] != 0 && group[to] != 0 && (group[from] != group[to] || top[from] || top[to]) {
				leaps++
				wantFault(t, between(from, "on @e go "+to), api.ErrTarget)
				continue
			}
			s, _ := mark(t, between(from, "on @e go "+to))
			wantRight(t, s)
		}
	}
	if leaps != 64-2*2-3*3 {
		t.Error(leaps)
	}
	// All counts, and only of the innermost one.
	s, _ := mark(t, between("d1", "on @e go f"))
	wantRight(t, strings.Replace(s, "all", "", 1))
	wantFault(t, between("d1", "on stop go z on @e go f"), api.ErrTarget)
	wantFault(t, between("d1", "on @done go f"), api.ErrTarget)
	wantFault(t, between("d1", "on @done go d"), api.ErrTarget)
	// With all at a state that lies in none.
	wantFault(t, in("state a { all state b { "+todo+"on @e go b } state d { end } } "+last), api.ErrTarget)
	wantFault(t, in("state a { all state b { "+todo+"on @done go d } state d { end } } "+last), api.ErrTarget)
	wantRight(t, in("state a { all state b { "+todo+"on e go a on done go z } state d { end } on e go a } "+last))
}

// P8.1: ErrBack of an on of done that doesn't go forward; other events go anywhere.
func TestBackward(t *testing.T) {
	for _, s := range []string{
		"state a { " + todo + "on @done go a } ",
		"state a { end } state b { " + todo + "on @done go a } ",
		"state a { " + todo + "} state b { " + todo + "on done go d on e go a on @done go a on done go b } state d { end } ",
		"state a { state b { " + todo + "on @done go a } } ",
		"state a { state b { state d { " + todo + "on @done go b } } } ",
		"state a { state b { state d { " + todo + "on @done go a } } } ",
		"state a { state b { end } state d { " + todo + "on @done go b } } ",
		"state a { state b { end } } state d { " + todo + "on @done go b } ",
		"state a { state b { end } } state d { " + todo + "on @done go a } ",
		"state a { " + todo + "on done go z } state b { " + todo + "on @done go a } state d { " + todo + "on done go d } ",
		"state a { all state b { end } state d { " + todo + "on @done go a } } ",
		"state a { all state b { state f { end } state g { " + todo + "on @done go f } } state d { end } } ",
	} {
		wantFault(t, in(s+last), api.ErrBack)
		other := strings.ReplaceAll(strings.ReplaceAll(s, "@", ""), "done", "e")
		wantRight(t, in(other+last))
	}
	for _, s := range []string{
		"state a { " + todo + "on done go b } state b { end } ",
		"state a { state b { " + todo + "on done go d } } state d { state e { end } } ",
		"state a { state b { " + todo + "on done go e } } state d { state e { end } } ",
		"state a { state b { " + todo + "on done go d } state d { end } } ",
		"state a { all state b { state f { " + todo + "on done go g } state g { end } } state d { " + todo + "on done go z } } ",
	} {
		wantRight(t, in(s+last))
	}
}

// pieces is, for each round, states with one fault of that round and of no later one, its mark at it; their names begin with p, and each of them lies in none. None of them needs a variable.
func pieces(p string) map[api.Errno][]string {
	step := func(s string) string { return "state " + p + "s { " + todo + s + "} " }
	return map[api.Errno][]string{
		api.ErrLong:   {step(many(6, "on e go z ") + "on @e go z "), step("on @e go z " + many(5, "set n = 1 "))},
		api.ErrName:   {"state " + p + "s { end } state @" + p + "s { end } ", "state " + p + "s { state @" + p + "s { end } } "},
		api.ErrRange:  {"state @" + p + "s { do x undo y at 4 retries 0 } ", "state " + p + "o { state @" + p + "s { do x undo y at 0 retries 6 } } "},
		api.ErrNone:   {step("on @e if q go z "), step("on f go z on @e go z set n = q "), step("on @e go z set q = 1 ")},
		api.ErrLeaf:   {"state @" + p + "s { } ", "state " + p + "o { on @done go z state " + p + "s { end } } ", "state @" + p + "s { end on e go z } ", "state @" + p + "s { all state " + p + "t { end } } "},
		api.ErrTarget: {step("on @e go q "), "state " + p + "s { all state " + p + "t { " + todo + "on @e go " + p + "u } state " + p + "u { end } } "},
		api.ErrBack:   {step("on @done go " + p + "s ")},
	}
}

// P8.1, R6: an error of an earlier round is told ahead of one of a later round, wherever both stand; and of one round the first one.
func TestRoundsInOrder(t *testing.T) {
	one, two := pieces("p"), pieces("q")
	pairs := 0
	for i, early := range roundsInOrder {
		for _, late := range roundsInOrder[i:] {
			for _, x := range one[early] {
				for _, y := range two[late] {
					pairs++
					bare := strings.ReplaceAll(y, "@", "")
					wantFault(t, in("var n = 1 "+x+bare+last), early)
					wantFault(t, in("var n = 1 state first { "+x+"} "+bare+last), early)
					if early == late {
						continue
					}
					wantFault(t, in("var n = 1 "+bare+x+last), early)
					wantFault(t, in("var n = 1 state first { "+bare+"} "+x+last), early)
				}
			}
		}
	}
	if pairs < 100 {
		t.Error(pairs)
	}
	// All rounds at once, the last one first; without the earliest the next one is told.
	for i := range roundsInOrder {
		s := last
		for j, no := range roundsInOrder[i:] {
			piece := pieces("p" + strconv.Itoa(j))[no][0]
			if j > 0 {
				piece = strings.ReplaceAll(piece, "@", "")
			}
			s = piece + s
		}
		wantFault(t, in("var n = 1 "+s), roundsInOrder[i])
	}
}

// P8.1: variables of the rounds of ErrLong and ErrName, against states of each round.
func TestVariablesInOrder(t *testing.T) {
	nine := many(8, "var v%d = 1 ") + "var @n = 1 "
	twice := "var n = 1 var @n = 1 "
	for no, list := range pieces("p") {
		for _, piece := range list {
			bare := strings.ReplaceAll(piece, "@", "")
			wantFault(t, in(nine+bare+last), api.ErrLong)
			if no == api.ErrLong {
				wantFault(t, in(strings.ReplaceAll(twice, "@", "")+piece+last), no)
			} else {
				wantFault(t, in(twice+bare+last), api.ErrName)
			}
		}
	}
	wantFault(t, in(many(8, "var v%d = 1 ")+"var @v0 = 1 "+last), api.ErrLong)
	wantFault(t, "chart @c 1 { var n = 1 var n = 1 }", api.ErrLong)
}

// P8.1: within one on and one state, an earlier round's error.
func TestRoundsInOnePlace(t *testing.T) {
	for s, no := range map[string]api.Errno{
		"state a { do x undo y at 4 retries 0 on @done if q go a " + many(5, "set q = 1 ") + "} ":       api.ErrLong,
		"state @a { do x undo y at 4 retries 0 on done if q go q state b { } } ":                        api.ErrRange,
		"state a { end on @e if q go q } ":                                                              api.ErrNone,
		"state a { on @done if q go q state b { end } } ":                                               api.ErrNone,
		"state a { on @done go q state b { end } } ":                                                    api.ErrLeaf,
		"state @a { on done go a } ":                                                                    api.ErrLeaf,
		"state a { state b { " + todo + "on @done go q } } ":                                            api.ErrTarget,
		"state a { all state b { " + todo + "on @done go b } state d { end } } ":                        api.ErrTarget,
		"state a { all state d { end } state b { " + todo + "on @done go d } } ":                        api.ErrTarget,
		"state a { " + todo + "on @done go a on e go z } ":                                              api.ErrBack,
		"state a { " + todo + "on done go a on @e go q } ":                                              api.ErrTarget,
		"state a { " + todo + "on done go a on e go q on @f if q go z } ":                               api.ErrNone,
		"state a { state b { end } state @a { do x undo y at 4 retries 9 on done if q go q } } ":        api.ErrName,
		"state @a { do x undo y at 0 retries 9 state b { } state d { " + todo + "on done if q go a } }": api.ErrRange,
	} {
		wantFault(t, in(s+last), no)
	}
}

// P8.1: Compile tells layer 6's error and place, ahead of Check's.
func TestCompileUnread(t *testing.T) {
	for s, no := range map[string]api.Errno{
		"@":                api.ErrSyntax,
		"chart c 1 {@":     api.ErrSyntax,
		"chart c 1 { } @x": api.ErrSyntax,
		"chart @if 1 { }":  api.ErrSyntax,
		"chart c 1 { state a { } state a { } @var ":                                                          api.ErrSyntax,
		"chart c 1 { state a { }\n\tstate b { on @go go q } }":                                               api.ErrSyntax,
		"chart c 1 { state a { } var n = @01 }":                                                              api.ErrWord,
		"chart c 1 { state a { } @& }":                                                                       api.ErrWord,
		"chart c 1 { state a { on e if @!!!!!!!!!!!!q go z } }":                                              api.ErrDeep,
		"chart c 1 { state a { state a { state a { state a { state a { state a { @state a { } } } } } } } }": api.ErrDeep,
		"@chart c 1 { " + strings.Repeat(" ", api.MaxSource) + "}":                                           api.ErrLong,
		"chart c 1 { " + strings.Repeat("var n=1 ", 748) + "state a{}@state b{}}":                            api.ErrLong,
		"# я\nchart c 1 {\n var я = 1 @on e go a }":                                                          api.ErrSyntax,
	} {
		text, at := mark(t, s)
		if _, _, readNo := chart.Read(text); readNo != no {
			t.Fatal(s, readNo)
		}
		wantRefusedAt(t, text, at, no)
	}
}

// fullChart is the chart of full, made anew.
func fullChart(t *testing.T) Chart {
	t.Helper()
	c, at, no := chart.Read(full)
	if no != api.OK {
		t.Fatal(at, no)
	}
	return c
}

// P8.1, R5, R6: ErrArg and no place of charts that aren't formed, ahead of every other error.
func TestNotFormed(t *testing.T) {
	for i, change := range []func(c *Chart){
		func(c *Chart) { c.Name = "" },
		func(c *Chart) { c.Name = "go" },
		func(c *Chart) { c.Version = -1 },
		func(c *Chart) { c.Version = api.MaxInt + 1 },
		func(c *Chart) { c.Vars[1].Name = "1" },
		func(c *Chart) { c.Vars[1].N = api.MaxInt + 1 },
		func(c *Chart) { c.States[0].Name = "a b" },
		func(c *Chart) { c.States[0].Where = -1 },
		func(c *Chart) { c.States[0].Retries = api.MaxInt + 1 },
		func(c *Chart) { c.States[0].Undo = "" },
		func(c *Chart) { c.States[0].Do = "" },
		func(c *Chart) { c.States[0].End = true },
		func(c *Chart) { c.States[0].All = true },
		func(c *Chart) { c.States[1].End = true },
		func(c *Chart) { c.States[1].Where = 1 },
		func(c *Chart) { c.States[0].Ons[0].Event = "on" },
		func(c *Chart) { c.States[0].Ons[0].Target = "" },
		func(c *Chart) { c.States[0].Ons[0].Guard = expr.Not{} },
		func(c *Chart) { c.States[0].Ons[0].Guard = &expr.Lit{} },
		func(c *Chart) { c.States[0].Ons[0].Guard = loud{} },
		func(c *Chart) { c.States[0].Ons[0].Sets[0].To = expr.Not{X: loud{}} },
		func(c *Chart) { c.States[0].Ons[0].Guard = ref("if") },
		func(c *Chart) { c.States[0].Ons[0].Sets[0].To = nil },
		func(c *Chart) { c.States[0].Ons[0].Sets[0].Name = "-" },
		func(c *Chart) { c.States[1].Inner[0].Inner[0].Name = "set" },
		func(c *Chart) { c.States[3].Inner = slices.Repeat([]State{{Name: "a"}, {}}, 50) },
		func(c *Chart) { c.States = append(slices.Repeat(c.States, 50), State{Name: "at"}) },
		func(c *Chart) { c.Vars = append(slices.Repeat(c.Vars, 50), Var{}) },
		func(c *Chart) { c.States = []State{deepState(api.MaxDeep + 1)} },
	} {
		c := fullChart(t)
		change(&c)
		wantCheck(t, i, c, api.Pos{}, api.ErrArg)
		c.States = append(c.States, State{Name: "a", At: pos(3, 4)}, State{Name: "b", At: pos(5, 6)})
		wantCheck(t, i, c, api.Pos{}, api.ErrArg)
	}
	wantCheck(t, "zero", Chart{}, api.Pos{}, api.ErrArg)
	wantCheck(t, "zero", Chart{At: pos(1, 2), Vars: make([]Var, 9), States: make([]State, 41)}, api.Pos{}, api.ErrArg)
	wantCheck(t, "just formed", Chart{Name: "c", At: pos(1, 2)}, pos(1, 2), api.ErrLong)
	wantCheck(t, "just so deep", Chart{Name: "c", States: []State{deepState(api.MaxDeep)}}, api.Pos{}, api.OK)
}

// deepState is that many states, each in the one ahead, and the last one an end.
func deepState(n int) State {
	s := State{Name: "s" + strconv.Itoa(n), End: true}
	for i := n - 1; i > 0; i-- {
		s = State{Name: "s" + strconv.Itoa(i), Inner: []State{s}}
	}
	return s
}

// P8.1: the place is the thing's own At, whatever it is.
func TestPlacesAreGiven(t *testing.T) {
	for _, at := range []api.Pos{{}, pos(1, 1), pos(-1, 0), pos(math.MaxInt, math.MinInt), pos(0, 7)} {
		end := State{Name: "z", End: true}
		on := func(o On) Chart {
			o.At = at
			return Chart{Name: "c", At: pos(50, 50), States: []State{{Name: "a", At: pos(51, 51), Do: "x", Undo: "y", Ons: []On{o}}, end}}
		}
		state := func(s State) Chart {
			s.At = at
			return Chart{Name: "c", At: pos(50, 50), States: []State{end, s}}
		}
		wantCheck(t, at, Chart{Name: "c", At: at}, at, api.ErrLong)
		wantCheck(t, at, Chart{Name: "c", Vars: []Var{{Name: "n"}, {Name: "n", At: at}}, States: []State{end}}, at, api.ErrName)
		wantCheck(t, at, state(State{Name: "z", End: true}), at, api.ErrName)
		wantCheck(t, at, state(State{Name: "a", Do: "x", Undo: "y", Where: api.Participants}), at, api.ErrRange)
		wantCheck(t, at, state(State{Name: "a"}), at, api.ErrLeaf)
		wantCheck(t, at, on(On{Event: "e", Guard: ref("n"), Target: "z"}), at, api.ErrNone)
		wantCheck(t, at, on(On{Event: "e", Target: "q"}), at, api.ErrTarget)
		wantCheck(t, at, on(On{Event: "done", Target: "a"}), at, api.ErrBack)
		wantCheck(t, at, on(On{Event: "done", Target: "z"}), api.Pos{}, api.OK)
	}
}

// placed is a state, and the numbers of those that it lies in, from the outermost on.
type placed struct {
	State
	within []int
}

func flat(list []State, within []int, so []placed) []placed {
	for _, s := range list {
		number := len(so)
		so = append(so, placed{s, within})
		so = flat(s.Inner, append(slices.Clip(within), number), so)
	}
	return so
}

// told is the chapter's words, asked otherwise: all faults of all rounds are gathered, and the first one of the first round that has one is told.
func told(c Chart) (api.Pos, api.Errno) {
	if !show.Formed(c) {
		return api.Pos{}, api.ErrArg
	}
	faults := map[api.Errno][]api.Pos{}
	add := func(no api.Errno, at api.Pos, wrong bool) {
		if wrong {
			faults[no] = append(faults[no], at)
		}
	}
	vars, numbers := map[string]int{}, map[string]int{}
	for i, v := range c.Vars {
		add(api.ErrLong, v.At, i >= api.MaxVars)
		add(api.ErrName, v.At, vars[v.Name] > 0)
		vars[v.Name]++
	}
	states := flat(c.States, nil, nil)
	for i := len(states) - 1; i >= 0; i-- {
		numbers[states[i].Name] = i
	}
	for i, s := range states {
		add(api.ErrLong, s.At, i >= api.MaxStates)
		add(api.ErrName, s.At, numbers[s.Name] != i)
		add(api.ErrRange, s.At, s.Where > 3 || s.Retries > 5)
		add(api.ErrLeaf, s.At, wrongLeaf(states, i))
		for j, o := range s.Ons {
			add(api.ErrLong, o.At, j >= api.MaxOns || len(o.Sets) >= 5)
			add(api.ErrNone, o.At, wrongRefs(o, vars))
			add(api.ErrLeaf, o.At, o.Event == "done" && s.Do == "")
			to, ok := numbers[o.Target]
			add(api.ErrTarget, o.At, !ok || wrongScope(states, i, to))
			add(api.ErrBack, o.At, o.Event == "done" && ok && to <= i)
		}
	}
	add(api.ErrLong, c.At, len(states) == 0)
	for _, no := range roundsInOrder {
		if len(faults[no]) > 0 {
			return faults[no][0], no
		}
	}
	return api.Pos{}, api.OK
}

func wrongLeaf(states []placed, i int) bool {
	s := states[i]
	if len(s.Inner) == 0 {
		return s.Do == "" && !s.End || s.End && len(s.Ons) > 0
	}
	if s.All {
		for _, x := range states {
			if x.All && slices.Contains(x.within, i) {
				return true
			}
		}
		return len(s.Inner) == 1
	}
	return s.Do != "" || s.End
}

func wrongRefs(o On, vars map[string]int) bool {
	names := expr.Refs(o.Guard)
	for _, s := range o.Sets {
		names = append(append(names, s.Name), expr.Refs(s.To)...)
	}
	return slices.ContainsFunc(names, func(name string) bool { return vars[name] == 0 })
}

func wrongScope(states []placed, i, j int) bool {
	scope := -1
	for k, x := range states[i].within {
		if k < len(states[j].within) && states[j].within[k] == x {
			scope = x
		}
	}
	return scope >= 0 && states[scope].All
}

// wantTold fails unless Check tells what the words tell, and answers the error.
func wantTold(t *testing.T, why any, c Chart) api.Errno {
	t.Helper()
	at, no := told(c)
	wantCheck(t, why, c, at, no)
	return no
}

// eachThing visits each thing that a chart has: its fields, its lists, and their members.
func eachThing(path string, v reflect.Value, visit func(path string, v reflect.Value)) {
	switch v.Kind() {
	case reflect.Struct:
		for i := range v.NumField() {
			eachThing(path+"."+v.Type().Field(i).Name, v.Field(i), visit)
		}
		return
	case reflect.Slice:
		for i := range v.Len() {
			eachThing(path+"["+strconv.Itoa(i)+"]", v.Index(i), visit)
		}
	}
	visit(path, v)
}

// instead is what could stand in v's stead.
func instead(v reflect.Value) []reflect.Value {
	var list []reflect.Value
	add := func(x any) { list = append(list, reflect.ValueOf(x).Convert(v.Type())) }
	switch v.Kind() {
	case reflect.String:
		for _, s := range strings.Fields("a b c d e f f1 f2 g h i j z n k done q if full xx 1") {
			add(s)
		}
	case reflect.Int, reflect.Int64:
		for _, n := range []int64{0, 1, -1, 3, 4, 5, 6, v.Int() + 1, api.MaxInt, api.MaxInt + 1, math.MinInt64} {
			add(n)
		}
	case reflect.Bool:
		add(!v.Bool())
	case reflect.Interface:
		for _, e := range []expr.Expr{nil, lit(9), lit(-9), ref("n"), ref("q"), ref("all"), expr.Not{X: ref("z")}, expr.Not{}, &expr.Lit{}, expr.Bin{Op: "&&", L: lit(0), R: ref("x")}} {
			list = append(list, reflect.ValueOf(&e).Elem())
		}
	case reflect.Slice:
		list = append(list, reflect.Zero(v.Type()))
		for from := range v.Len() {
			list = append(list, v.Slice(from, v.Len()), v.Slice(0, from))
		}
		for n := 2; n < 8 && v.Len() > 0; n++ {
			longer := reflect.MakeSlice(v.Type(), 0, 0)
			for range n {
				longer = reflect.AppendSlice(longer, v)
			}
			list = append(list, longer)
		}
	}
	return list
}

// P8.1: each thing that a right chart has, changed.
func TestEachThing(t *testing.T) {
	c := fullChart(t)
	count := map[api.Errno]int{}
	eachThing("c", reflect.ValueOf(&c).Elem(), func(path string, v reflect.Value) {
		was := reflect.New(v.Type()).Elem()
		was.Set(v)
		for _, x := range instead(v) {
			v.Set(x)
			count[wantTold(t, fmt.Sprint(path, " ", x), c)]++
			v.Set(was)
		}
	})
	for _, no := range append(roundsInOrder, api.OK, api.ErrArg) {
		if count[no] < 6 {
			t.Error(no, count)
		}
	}
}

// dice are numbers that aren't alike, the same ones each time.
type dice uint32

func (d *dice) upTo(n int) int {
	*d = *d*1664525 + 1013904223
	return int(*d>>8) % n
}

// seldom is true once in n times.
func (d *dice) seldom(n int) bool {
	return d.upTo(n) == 0
}

// maker makes charts with places of their own for each thing.
type maker struct {
	dice
	rare   int
	places int
	states int
}

func (m *maker) place() api.Pos {
	m.places++
	return pos(m.places, m.places%7)
}

// stateName is mostly that of a state that is made next, by then.
func (m *maker) stateName() string {
	if m.seldom(m.rare) {
		return []string{"s0", "s3", "q", "v0"}[m.upTo(4)]
	}
	return "s" + strconv.Itoa(m.states-1+m.upTo(6)-m.upTo(2)*m.upTo(4))
}

func (m *maker) varName() string {
	if m.seldom(m.rare) {
		return "v" + strconv.Itoa(m.upTo(9))
	}
	return []string{"v0", "v1"}[m.upTo(2)]
}

func (m *maker) expression() expr.Expr {
	switch m.upTo(4) {
	case 0:
		return lit(int64(m.upTo(9)))
	case 1:
		return expr.Neg{X: ref(m.varName())}
	case 2:
		return expr.Bin{Op: "&&", L: lit(0), R: expr.Not{X: ref(m.varName())}}
	}
	return ref(m.varName())
}

func (m *maker) ons(step bool) []On {
	var list []On
	most := 2
	if m.seldom(m.rare) {
		most = 9
	}
	for range m.upTo(most + 1) {
		o := On{Event: "e", Target: m.stateName(), At: m.place()}
		if step && m.seldom(3) || m.seldom(4*m.rare) {
			o.Event = "done"
		}
		if m.seldom(2) {
			o.Guard = m.expression()
		}
		sets := m.upTo(3)
		if m.seldom(m.rare) {
			sets += 2
		}
		for range sets {
			o.Sets = append(o.Sets, Set{Name: m.varName(), To: m.expression()})
		}
		list = append(list, o)
	}
	return list
}

func (m *maker) state(room int) State {
	s := State{Name: "s" + strconv.Itoa(m.states), At: m.place()}
	m.states++
	if m.seldom(4 * m.rare) {
		s.Name = "s" + strconv.Itoa(m.upTo(m.states))
	}
	if room == 0 || m.upTo(3) > 0 {
		return m.leaf(s)
	}
	s.Ons = m.ons(m.seldom(4 * m.rare))
	s.All = m.seldom(3)
	for range m.upTo(3) + 1 {
		s.Inner = append(s.Inner, m.state(room-1))
	}
	if s.All && len(s.Inner) == 1 && !m.seldom(m.rare) {
		s.All = false
	}
	if !s.All && m.seldom(4*m.rare) {
		s.End = true
	}
	return s
}

func (m *maker) leaf(s State) State {
	switch {
	case m.seldom(8 * m.rare):
		s.Ons = m.ons(false)
	case m.seldom(2):
		s.End = true
		if m.seldom(4 * m.rare) {
			s.Ons = m.ons(true)
		}
	default:
		s.Do, s.Undo, s.Where, s.Retries = "x", "y", m.upTo(api.Participants), m.upTo(api.MaxRetries+1)
		if m.seldom(4 * m.rare) {
			s.Where, s.Retries = s.Where+m.upTo(4), s.Retries+m.upTo(4)
		}
		s.Ons = m.ons(true)
	}
	return s
}

func (m *maker) chart(most int) Chart {
	c := Chart{Name: "c", Version: m.upTo(9), At: m.place()}
	vars := 2
	if m.seldom(m.rare) {
		vars = m.upTo(11)
	}
	for i := range vars {
		v := Var{Name: "v" + strconv.Itoa(i), At: m.place()}
		if m.seldom(4 * m.rare) {
			v.Name = "v" + strconv.Itoa(m.upTo(4))
		}
		c.Vars = append(c.Vars, v)
	}
	for range m.upTo(most + 1) {
		c.States = append(c.States, m.state(api.MaxDeep-1))
	}
	return c
}

// P8.1: many charts that aren't alike, with few faults and with many.
func TestManyCharts(t *testing.T) {
	count := map[api.Errno]int{}
	for i := range 60000 {
		m := maker{dice: dice(i), rare: []int{3, 10, 30, 200}[i%4]}
		c := m.chart([]int{2, 4, 8, 30}[i/4%4])
		count[wantTold(t, i, c)]++
	}
	for _, no := range append(roundsInOrder, api.OK) {
		if count[no] < 400 {
			t.Error(no, count)
		}
	}
}

// P8.1, R1: whatever the text, Compile tells layer 6's error, or what the words tell of the chart, or the chart.
func FuzzCompile(f *testing.F) {
	for _, s := range []string{"", "chart c 1 { }", full, in(last), in("state a { all state b { " + todo + "on done go b } } "), in("var n = 1 var n = 2 state a { end } state a { }"), between("d1", "on done if n go f set q = 1")} {
		f.Add(s)
	}
	f.Fuzz(func(t *testing.T, s string) {
		c, at, no := chart.Read(s)
		if no != api.OK {
			wantRefusedAt(t, s, at, no)
			return
		}
		if at, no := told(c); no != api.OK {
			wantRefusedAt(t, s, at, no)
			wantCheck(t, s, c, at, no)
			return
		}
		wantRight(t, s)
	})
}

// R1: zero, and charts that lie in themselves, or are large: every call ends.
func TestStrange(t *testing.T) {
	loop := []State{{Name: "a"}, {Name: "b"}}
	loop[1].Inner = loop
	wantCheck(t, "loop", Chart{Name: "a", States: loop}, api.Pos{}, api.ErrArg)
	wantCheck(t, "deep", Chart{Name: "a", States: []State{deepState(1 << 16)}}, api.Pos{}, api.ErrArg)
	shared := ref("x")
	for range 60 {
		shared = expr.Bin{Op: "+", L: shared, R: shared}
	}
	wantCheck(t, "shared", Chart{Name: "a", States: []State{{Name: "a", Ons: []On{{Event: "e", Guard: shared, Target: "a"}}}}}, api.Pos{}, api.ErrArg)
	const n = 1 << 18
	at, end := pos(8, 9), State{Name: "a", End: true, At: pos(8, 9)}
	states := slices.Repeat([]State{end}, n)
	on := On{Event: "e", Target: "t", At: at}
	long := on
	long.Sets = slices.Repeat([]Set{{Name: "n", To: lit(1)}}, n)
	for _, c := range []Chart{
		{Name: "a", Vars: slices.Repeat([]Var{{Name: "n", At: at}}, n)},
		{Name: "a", States: states},
		{Name: "a", States: []State{{Name: "b", Inner: states}}},
		{Name: "a", States: []State{{Name: "b", Ons: slices.Repeat([]On{on}, n)}}},
		{Name: "a", States: []State{{Name: "b", Ons: []On{long}}}},
	} {
		wantCheck(t, "large", c, at, api.ErrLong)
		c.States = append(slices.Clone(c.States), State{Name: "if"})
		wantCheck(t, "large", c, api.Pos{}, api.ErrArg)
	}
	for _, s := range []string{strings.Repeat("chart ", 1<<20), strings.Repeat("\xff", 1<<20)} {
		wantRefusedAt(t, s, pos(1, 1), api.ErrLong)
	}
}

// R2, R5: what is asked once more is answered alike, errors between or not.
func TestNothingIsKept(t *testing.T) {
	for range 3 {
		wantRight(t, full)
		for no, list := range pieces("p") {
			wantFault(t, in("var n = 1 "+list[0]+last), no)
		}
		wantCheck(t, "zero", Chart{}, api.Pos{}, api.ErrArg)
		wantRefusedAt(t, "chart c 1 { x", pos(1, 13), api.ErrSyntax)
		wantRight(t, in(last))
	}
}

// R4: lists of no elements are alike, nil or empty.
func TestNoElements(t *testing.T) {
	for _, c := range []Chart{
		{Name: "c", At: pos(1, 2), Vars: []Var{}, States: []State{}},
		{Name: "c", At: pos(1, 2), Vars: make([]Var, 0, 9), States: make([]State, 0, 9)},
	} {
		wantCheck(t, "no states", c, pos(1, 2), api.ErrLong)
	}
	bare := State{Name: "z", End: true}
	empty := State{Name: "z", End: true, Ons: []On{}, Inner: make([]State, 0, 3)}
	on := On{Event: "e", Target: "z"}
	emptyOn := On{Event: "e", Target: "z", Sets: []Set{}}
	for _, z := range []State{bare, empty} {
		for _, o := range []On{on, emptyOn} {
			a := State{Name: "a", Do: "x", Undo: "y", Ons: []On{o}, Inner: z.Inner}
			wantCheck(t, "right", Chart{Name: "c", States: []State{a, z}}, api.Pos{}, api.OK)
			wantCheck(t, "right", Chart{Name: "c", Vars: []Var{}, States: []State{a, z}}, api.Pos{}, api.OK)
		}
	}
	nothing := State{Name: "a", At: pos(3, 4), Ons: []On{}, Inner: []State{}}
	wantCheck(t, "a leaf that is nothing", Chart{Name: "c", States: []State{nothing}}, pos(3, 4), api.ErrLeaf)
}

// roomy gives each list of a chart spare room, with something in it.
func roomy(c *Chart) {
	eachThing("c", reflect.ValueOf(c).Elem(), func(_ string, v reflect.Value) {
		if v.Kind() != reflect.Slice {
			return
		}
		list := reflect.MakeSlice(v.Type(), v.Len()+50, v.Len()+50)
		reflect.Copy(list, v)
		for i := v.Len(); i < list.Len(); i++ {
			eachThing("room", list.Index(i), func(_ string, x reflect.Value) { x.Set(instead(x)[0]) })
		}
		v.Set(list.Slice(0, v.Len()))
	})
}

// rooms is what stands in a chart, in the spare room of its lists too.
func rooms(c Chart) string {
	var s strings.Builder
	fmt.Fprintf(&s, "%#v\n", c)
	eachThing("c", reflect.ValueOf(&c).Elem(), func(path string, v reflect.Value) {
		if v.Kind() == reflect.Slice {
			fmt.Fprintf(&s, "%s %#v\n", path, v.Slice(0, v.Cap()).Interface())
		}
	})
	return s.String()
}

// R3: what is handed in is left as it is, its spare room too, and the spare room counts for nothing.
func TestChartsAreLeft(t *testing.T) {
	texts := []string{full, in(last), "chart c 1 { }"}
	for _, list := range pieces("p") {
		for _, piece := range list {
			texts = append(texts, in("var n = 1 "+strings.ReplaceAll(piece, "@", "")+last))
		}
	}
	for _, s := range texts {
		c, _, _ := chart.Read(s)
		at, no := told(c)
		roomy(&c)
		before := rooms(c)
		wantCheck(t, "spare room "+s, c, at, no)
		if rooms(c) != before {
			t.Error("changed", s)
		}
	}
}

// R3: what Compile answers has nothing of the text, and no two answers share memory.
func TestCompiledIsNew(t *testing.T) {
	text := []byte(full)
	c, at, no := Compile(unsafe.String(&text[0], len(text)))
	for i := range text {
		text[i] = '#'
	}
	if no != api.OK || at != (api.Pos{}) || !chart.Same(c, fullChart(t)) {
		t.Error("the answer changes with the text")
	}
	one, _, _ := Compile(full)
	two, _, _ := Compile(full)
	eachThing("c", reflect.ValueOf(&one).Elem(), func(_ string, v reflect.Value) {
		if v.Kind() != reflect.Slice {
			v.Set(instead(v)[0])
			return
		}
		room := v.Slice(0, v.Cap())
		for i := v.Len(); i < v.Cap(); i++ {
			eachThing("room", room.Index(i), func(_ string, x reflect.Value) { x.Set(instead(x)[0]) })
		}
	})
	if chart.Same(one, two) || !chart.Same(two, fullChart(t)) {
		t.Error("one answer changes with the other")
	}
	wantOwnRooms(t, two)
}

// wantOwnRooms fails unless each list of a chart can be filled to its end without changing another one.
func wantOwnRooms(t *testing.T, c Chart) {
	t.Helper()
	eachThing("c", reflect.ValueOf(&c).Elem(), func(path string, v reflect.Value) {
		if v.Kind() != reflect.Slice {
			return
		}
		room := v.Slice(0, v.Cap())
		for i := v.Len(); i < v.Cap(); i++ {
			eachThing("room", room.Index(i), func(_ string, x reflect.Value) { x.Set(instead(x)[0]) })
		}
		if !chart.Same(c, fullChart(t)) {
			t.Error("the spare room is another list's:", path)
		}
	})
}
