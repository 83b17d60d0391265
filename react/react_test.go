package react

import (
	"fmt"
	"math"
	"slices"
	"strings"
	"testing"

	"tumbrel/api"
	"tumbrel/chart"
	"tumbrel/check"
	"tumbrel/config"
	"tumbrel/tree"
)

// Short to write.
type (
	list    = []int
	numbers = []int64
)

// pay has the states a 0, b 1 with all, c 2 in it, d 3 and e 4 in that, f 5 in b, z 6.
const pay = `chart pay 1 {
	var n = 0
	var k = -5
	state a {
		do take undo give at 0 retries 2
		on done if n < 3 go b set n = n + 1 set k = -n
		on stop go z
	}
	state b {
		all
		state c {
			state d {
				do x undo y at 1 retries 0
				on done go e
			}
			state e {
				end
			}
		}
		state f {
			do p undo q at 3 retries 1
			on done go z
		}
	}
	state z {
		end
	}
}
`

func compile(t *testing.T, s string) chart.Chart {
	t.Helper()
	c, at, e := check.Compile(s)
	if e != api.OK {
		t.Fatal(at, e, s)
	}
	return c
}

// step is the words of a state's step, for states that need one.
const step = " do x undo y at 0 retries 0 "

// inChart is a chart with these variables and states, and behind them two ends, y and z.
func inChart(s string) string {
	return "chart c 1 { " + s + " state y { end } state z { end } }"
}

func sameSituation(a, b Situation) bool {
	return slices.Equal(a.Active, b.Active) && slices.Equal(a.Vars, b.Vars) && slices.Equal(a.Busy, b.Busy)
}

func sameEffect(a, b Effect) bool {
	return a.State == b.State && a.On == b.On && slices.Equal(a.Left, b.Left) && slices.Equal(a.Entered, b.Entered)
}

func wantTake(t *testing.T, c chart.Chart, s Situation, event string, done int, next Situation, effect Effect) {
	t.Helper()
	n, e, ok := Take(c, s, event, done)
	if !ok || !sameSituation(n, next) || !sameEffect(e, effect) {
		t.Errorf("Take(%v, %q, %d) = %v %v %v, want %v %v", s, event, done, n, e, ok, next, effect)
	}
	if ok && !Formed(c, n) {
		t.Errorf("Take(%v, %q, %d) = %v, which isn't formed", s, event, done, n)
	}
}

func wantNothing(t *testing.T, c chart.Chart, s Situation, event string, done int) {
	t.Helper()
	n, e, ok := Take(c, s, event, done)
	if ok || !sameSituation(n, Situation{}) || !sameEffect(e, Effect{}) {
		t.Errorf("Take(%v, %q, %d) = %v %v %v, want nothing", s, event, done, n, e, ok)
	}
}

// wantOn fails if another on than number on of that state is taken, or none.
func wantOn(t *testing.T, c chart.Chart, s Situation, event string, state, on int) {
	t.Helper()
	if _, e, ok := Take(c, s, event, -1); !ok || e.State != state || e.On != on {
		t.Errorf("Take(%v, %q) is by the on %d of %d (%v), want %d of %d", s, event, e.On, e.State, ok, on, state)
	}
}

func wantFormed(t *testing.T, c chart.Chart, s Situation, want bool) {
	t.Helper()
	if got := Formed(c, s); got != want {
		t.Errorf("Formed(%v) = %v", s, got)
	}
}

func wantStart(t *testing.T, c chart.Chart, want Situation, e api.Errno) {
	t.Helper()
	s, no := Start(c)
	if no != e || !sameSituation(s, want) {
		t.Errorf("Start(%v) = %v %v, want %v %v", c, s, no, want, e)
	}
	if Formed(c, s) != (e == api.OK) {
		t.Errorf("Start(%v) = %v: is it formed?", c, s)
	}
}

// P11.2: the chapter's example.
func TestExample(t *testing.T) {
	c := compile(t, "chart c 1 { var n = 0 state A { do x undo y at 0 retries 0 on done if n < 3 go B } state B { end } }")
	wantTake(t, c, Situation{list{0}, numbers{2}, nil}, "done", 0, Situation{list{1}, numbers{2}, nil}, Effect{0, 0, list{0}, list{1}})
	wantNothing(t, c, Situation{list{0}, numbers{3}, nil}, "done", 0)
}

// P11.1: Start, some answers written out.
func TestStart(t *testing.T) {
	for s, want := range map[string]Situation{
		pay:                               {list{0}, numbers{0, -5}, nil},
		"chart c 1 { state A { end } }":   {list{0}, nil, nil},
		inChart("state A {" + step + "}"): {list{0}, nil, nil},
		inChart("state A { state B { state C { end } } state D { end } }"):                                                        {list{0, 1, 2}, nil, nil},
		inChart("state A { all state B { state C { end } state D { end } } state E { end } state F { state G {" + step + "} } }"): {list{0, 1, 2, 4, 5, 6}, nil, nil},
		inChart("var a = 1000000000 var b = - 1000000000 var c = 0 var d = - 0 state A { end }"):                                  {list{0}, numbers{api.MaxInt, -api.MaxInt, 0, 0}, nil},
		inChart("var h = 1 var g = 2 var f = 3 var e = 4 var d = 5 var c = 6 var b = 7 var a = 8 state A { end }"):                {list{0}, numbers{1, 2, 3, 4, 5, 6, 7, 8}, nil},
	} {
		wantStart(t, compile(t, s), want, api.OK)
	}
}

// wrongCharts is texts that are read, but whose charts aren't right, one for each of layer 8's rounds and more.
func wrongCharts() []string {
	return []string{
		"chart c 1 { }",
		"chart c 1 { " + strings.Repeat("var n = 0 ", 9) + "state A { end } }",
		"chart c 1 { " + strings.Repeat("state A { end } ", 41) + "}",
		inChart("state A {" + step + strings.Repeat("on e go z ", 7) + "}"),
		inChart("var n = 0 state A {" + step + "on e go z " + strings.Repeat("set n = 1 ", 5) + "}"),
		inChart("state A { end } state A { end }"),
		inChart("var n = 0 var n = 0 state A { end }"),
		inChart("state A { do x undo y at 4 retries 0 }"),
		inChart("state A { do x undo y at 0 retries 6 }"),
		inChart("state A {" + step + "on e if n go z }"),
		inChart("state A {" + step + "on e go z set n = 1 }"),
		inChart("state A { }"),
		inChart("state A { end on e go z }"),
		inChart("state A { all state B { end } }"),
		inChart("state A { on done go z state B { end } }"),
		inChart("state A {" + step + "on e go x }"),
		inChart("state A { all state B {" + step + "on e go C } state C { end } }"),
		inChart("state A {" + step + "on done go A }"),
	}
}

// P11.1, P11.2: of a chart that isn't right there is no situation.
func TestWrongCharts(t *testing.T) {
	for _, s := range wrongCharts() {
		c, at, e := chart.Read(s)
		if e != api.OK {
			t.Fatal(at, e, s)
		}
		wantNoSituation(t, c)
	}
}

// wantNoSituation fails if some situation is one of c.
func wantNoSituation(t *testing.T, c chart.Chart) {
	t.Helper()
	if s, e := Start(c); e != api.ErrArg || !sameSituation(s, Situation{}) {
		t.Error(s, e)
	}
	active := config.Start(tree.Nodes(c))
	for _, s := range []Situation{{}, {active, nil, nil}, {active, make(numbers, len(c.Vars)), nil}, {list{0}, make(numbers, len(c.Vars)), nil}} {
		wantFormed(t, c, s, false)
		for _, event := range []string{"done", "e", ""} {
			wantNothing(t, c, s, event, 0)
		}
	}
}

// P11.1: a chart that is right is so whatever its places are; one that no text is read as isn't.
func TestUnreadCharts(t *testing.T) {
	c := compile(t, pay)
	wantStart(t, chart.Strip(c), Situation{list{0}, numbers{0, -5}, nil}, api.OK)
	for _, change := range []func(c *chart.Chart){
		func(c *chart.Chart) { c.Name = "" },
		func(c *chart.Chart) { c.Name = "state" },
		func(c *chart.Chart) { c.Version = -1 },
		func(c *chart.Chart) { c.Vars[0].N = api.MaxInt + 1 },
		func(c *chart.Chart) { c.Vars[1].N = math.MinInt64 },
		func(c *chart.Chart) { c.States[0].End = true },
		func(c *chart.Chart) { c.States[0].Ons[0].Event = "" },
		func(c *chart.Chart) { c.States[0].Ons[0].Sets[0].To = nil },
		func(c *chart.Chart) { c.States = nil },
	} {
		changed := chart.Strip(c)
		change(&changed)
		wantNoSituation(t, changed)
	}
}

// P11.1: Formed, some answers written out.
func TestFormedOfPay(t *testing.T) {
	c := compile(t, pay)
	vars := numbers{0, 0}
	for _, s := range []Situation{
		{list{0}, vars, nil},
		{list{0}, vars, list{0}},
		{list{1, 2, 3, 5}, vars, nil},
		{list{1, 2, 3, 5}, vars, list{3}},
		{list{1, 2, 3, 5}, vars, list{5}},
		{list{1, 2, 3, 5}, vars, list{3, 5}},
		{list{1, 2, 4, 5}, vars, list{5}},
		{list{6}, vars, nil},
		{list{6}, numbers{api.MaxInt, -api.MaxInt}, nil},
		{list{6}, numbers{-api.MaxInt, api.MaxInt}, nil},
	} {
		wantFormed(t, c, s, true)
	}
	for _, s := range []Situation{
		{},
		// Active isn't legal.
		{nil, vars, nil}, {list{0, 6}, vars, nil}, {list{1, 2, 3}, vars, nil}, {list{5, 3, 2, 1}, vars, nil}, {list{0, 0}, vars, nil}, {list{7}, vars, nil}, {list{-1}, vars, nil},
		// Vars are too few, too many, or out of range.
		{list{0}, nil, nil}, {list{0}, numbers{0}, nil}, {list{0}, numbers{0, 0, 0}, nil},
		{list{0}, numbers{api.MaxInt + 1, 0}, nil}, {list{0}, numbers{0, api.MaxInt + 1}, nil}, {list{0}, numbers{-api.MaxInt - 1, 0}, nil}, {list{0}, numbers{0, -api.MaxInt - 1}, nil},
		{list{0}, numbers{0, math.MaxInt64}, nil}, {list{0}, numbers{math.MinInt64, 0}, nil}, {list{0}, numbers{1 << 32, 0}, nil},
		// Busy doesn't rise.
		{list{0}, vars, list{0, 0}}, {list{1, 2, 3, 5}, vars, list{5, 3}}, {list{1, 2, 3, 5}, vars, list{3, 3, 5}}, {list{1, 2, 3, 5}, vars, list{3, 5, 3}},
		// Busy is of states that aren't active, or are none.
		{list{0}, vars, list{3}}, {list{0}, vars, list{0, 5}}, {list{1, 2, 4, 5}, vars, list{3}}, {list{6}, vars, list{0}},
		{list{0}, vars, list{-1}}, {list{0}, vars, list{-1, 0}}, {list{0}, vars, list{0, 7}}, {list{0}, vars, list{math.MinInt}}, {list{0}, vars, list{0, math.MaxInt}}, {list{0}, vars, list{1 << 32}},
		// Busy is of states without a step.
		{list{6}, vars, list{6}}, {list{1, 2, 4, 5}, vars, list{4}}, {list{1, 2, 3, 5}, vars, list{1}}, {list{1, 2, 3, 5}, vars, list{2, 3}}, {list{1, 2, 3, 5}, vars, list{1, 2, 3, 5}},
	} {
		wantFormed(t, c, s, false)
		for done := range 7 {
			wantNothing(t, c, s, "done", done)
			wantNothing(t, c, s, "stop", done)
		}
	}
}

// chosen is the numbers of the bits of a mask, rising.
func chosen(mask int) list {
	var l list
	for i := range 20 {
		if mask>>i&1 == 1 {
			l = append(l, i)
		}
	}
	return l
}

// P11.1: Formed of each choice of active and busy states.
func TestFormedOfAll(t *testing.T) {
	c := compile(t, pay)
	steps := 1<<0 | 1<<3 | 1<<5
	count := 0
	for active := range 1 << 7 {
		legal := active == 1<<0 || active == 1<<6 || active == 1<<1|1<<2|1<<3|1<<5 || active == 1<<1|1<<2|1<<4|1<<5
		for busy := range 1 << 7 {
			want := legal && busy&^(active&steps) == 0
			wantFormed(t, c, Situation{chosen(active), numbers{1, 2}, chosen(busy)}, want)
			if want {
				count++
			}
		}
	}
	if count != 2+1+4+2 {
		t.Error(count)
	}
}

// P11.1, P11.2: a way through pay, to its end.
func TestPay(t *testing.T) {
	c := compile(t, pay)
	s, no := Start(c)
	if no != api.OK {
		t.Fatal(no)
	}
	wantTake(t, c, s, "done", 0, Situation{list{1, 2, 3, 5}, numbers{1, -1}, nil}, Effect{0, 0, list{0}, list{1, 2, 3, 5}})
	wantTake(t, c, s, "stop", 0, Situation{list{6}, numbers{0, -5}, nil}, Effect{0, 1, list{0}, list{6}})
	s = Situation{list{1, 2, 3, 5}, numbers{1, -1}, nil}
	wantTake(t, c, s, "done", 3, Situation{list{1, 2, 4, 5}, numbers{1, -1}, nil}, Effect{3, 0, list{3}, list{4}})
	wantTake(t, c, s, "done", 5, Situation{list{6}, numbers{1, -1}, nil}, Effect{5, 0, list{5, 3, 2, 1}, list{6}})
	s = Situation{list{1, 2, 4, 5}, numbers{1, -1}, nil}
	wantTake(t, c, s, "done", 5, Situation{list{6}, numbers{1, -1}, nil}, Effect{5, 0, list{5, 4, 2, 1}, list{6}})
	for done := range 7 {
		wantNothing(t, c, Situation{list{6}, numbers{1, -1}, nil}, "done", done)
	}
}

// P11.2: an on is enabled for its own event alone.
func TestEvents(t *testing.T) {
	c := compile(t, inChart("state A {"+step+"on e go y on done go y on e2 go z on E go z }"))
	s := Situation{Active: list{0}}
	for event, on := range map[string]int{"e": 0, "done": 1, "e2": 2, "E": 3} {
		if _, e, ok := Take(c, s, event, 0); !ok || e.On != on {
			t.Error(event, e, ok)
		}
	}
	for _, event := range []string{"", "f", "Done", "DONE", "done ", " done", "don", "e ", "e\x00", "e22", "if", "on", "A", "y", "x", "\xff", strings.Repeat("e", 1<<16)} {
		wantNothing(t, c, s, event, 0)
	}
}

// P11.2: of the event done just the state's ons are asked that is done, if it is active.
func TestDone(t *testing.T) {
	c := compile(t, inChart("state A { all on e go y state B {"+step+"on done go y } state C {"+step+"on done go z } state D {"+step+"} } state E {"+step+"on done go y }"))
	s := Situation{Active: list{0, 1, 2, 3}}
	wantTake(t, c, s, "done", 1, Situation{Active: list{5}}, Effect{1, 0, list{3, 2, 1, 0}, list{5}})
	wantTake(t, c, s, "done", 2, Situation{Active: list{6}}, Effect{2, 0, list{3, 2, 1, 0}, list{6}})
	for _, done := range []int{0, 3, 4, 5, 6, 7, -1, -2, 40, math.MinInt, math.MaxInt, 1 << 32, 1<<32 + 1, -1<<32 + 1} {
		wantNothing(t, c, s, "done", done)
	}
	for _, done := range []int{0, 1, 2, 3, 4, 7, -1, math.MinInt, math.MaxInt} {
		wantTake(t, c, s, "e", done, Situation{Active: list{5}}, Effect{0, 0, list{3, 2, 1, 0}, list{5}})
	}
}

// P11.2: just the ons of active states are enabled.
func TestActive(t *testing.T) {
	c := compile(t, inChart("state A { state B {"+step+"on e go y } state C {"+step+"on f go y } } state D { on g go z state E {"+step+"} }"))
	for _, s := range []struct {
		active list
		events string
	}{{list{0, 1}, "e"}, {list{0, 2}, "f"}, {list{3, 4}, "g"}, {list{5}, ""}, {list{6}, ""}} {
		for _, event := range []string{"e", "f", "g"} {
			if _, _, ok := Take(c, Situation{Active: s.active}, event, s.active[0]); ok != (event == s.events) {
				t.Error(s, event, ok)
			}
		}
	}
}

// busyChart has its states' numbers in their names.
const busyChart = `chart c 1 {
	state s0 {
		all
		on out go s9
		state s1 {
			state s2 {
				on inside go s4
				on next go s5
				state s3 { do x undo y at 0 retries 0 on done go s9 on done go s4 on next go s3 on far go s9 on far go s5 }
				state s4 { do x undo y at 0 retries 0 on next go s3 }
			}
			state s5 { do x undo y at 0 retries 0 on out go s2 }
		}
		state s6 {
			state s7 { do x undo y at 0 retries 0 on done go s8 on out go s7 on out go s8 }
			state s8 { end }
		}
	}
	state s9 { end }
}`

// P11.2: an on that would leave what is busy isn't enabled, however deep that lies; the next one is asked then. What is busy elsewhere stays so.
func TestBusy(t *testing.T) {
	c := compile(t, busyChart)
	at := func(active, busy list) Situation { return Situation{Active: active, Busy: busy} }
	from, then := list{0, 1, 2, 3, 6, 7}, list{0, 1, 2, 4, 6, 7}
	wantTake(t, c, at(from, nil), "done", 3, at(list{9}, nil), Effect{3, 0, list{7, 6, 3, 2, 1, 0}, list{9}})
	wantTake(t, c, at(from, list{7}), "done", 3, at(then, list{7}), Effect{3, 1, list{3}, list{4}})
	wantNothing(t, c, at(from, list{3}), "done", 3)
	wantNothing(t, c, at(from, list{3, 7}), "done", 3)
	wantTake(t, c, at(from, list{3}), "done", 7, at(list{0, 1, 2, 3, 6, 8}, list{3}), Effect{7, 0, list{7}, list{8}})
	wantNothing(t, c, at(from, list{7}), "done", 7)
	// An outer state's on leaves what lies in that.
	wantTake(t, c, at(from, nil), "inside", 0, at(then, nil), Effect{2, 0, list{3, 2}, list{2, 4}})
	wantTake(t, c, at(from, list{7}), "inside", 0, at(then, list{7}), Effect{2, 0, list{3, 2}, list{2, 4}})
	wantNothing(t, c, at(from, list{3}), "inside", 0)
	wantNothing(t, c, at(then, list{4}), "inside", 0)
	wantTake(t, c, at(then, list{7}), "inside", 0, at(then, list{7}), Effect{2, 0, list{4, 2}, list{2, 4}})
	// What is left, and entered again at once, is left too.
	wantTake(t, c, at(from, list{7}), "next", 0, at(from, list{7}), Effect{3, 2, list{3}, list{3}})
	wantNothing(t, c, at(from, list{3}), "next", 0)
	wantTake(t, c, at(from, nil), "far", 0, at(list{9}, nil), Effect{3, 3, list{7, 6, 3, 2, 1, 0}, list{9}})
	wantTake(t, c, at(from, list{7}), "far", 0, at(list{0, 1, 5, 6, 7}, list{7}), Effect{3, 4, list{3, 2}, list{5}})
	// The deepest state's ons are taken ahead of outer ones, but for what is busy.
	wantTake(t, c, at(from, nil), "out", 0, at(from, nil), Effect{7, 1, list{7}, list{7}})
	wantNothing(t, c, at(from, list{7}), "out", 0)
	five := list{0, 1, 5, 6, 7}
	wantTake(t, c, at(five, list{7}), "out", 0, at(from, list{7}), Effect{5, 0, list{5}, list{2, 3}})
	wantTake(t, c, at(five, list{5}), "out", 0, at(five, list{5}), Effect{7, 1, list{7}, list{7}})
	wantNothing(t, c, at(five, list{5, 7}), "out", 0)
	wantTake(t, c, at(list{0, 1, 2, 3, 6, 8}, nil), "out", 0, at(list{9}, nil), Effect{0, 0, list{8, 6, 3, 2, 1, 0}, list{9}})
	wantNothing(t, c, at(list{0, 1, 2, 3, 6, 8}, list{3}), "out", 0)
}

// guarded is a chart with an on of e by a guard, of a variable n, and one behind it without.
func guarded(guard string) string {
	return inChart("var n = 0 var m = 0 state A {" + step + "on e if " + guard + " go y on e go z }")
}

// P11.2: a guard lets its on be taken, if its value isn't 0: an error is none.
func TestGuards(t *testing.T) {
	for _, k := range []struct {
		guard string
		n     int64
		let   bool
	}{
		{"1", 0, true}, {"0", 0, false}, {"2", 0, true}, {"1000000000", 0, true}, {"-1", 0, true}, {"-0", 0, false},
		{"n", 0, false}, {"n", 1, true}, {"n", -1, true}, {"n", api.MaxInt, true}, {"n", -api.MaxInt, true},
		{"n < 3", 2, true}, {"n < 3", 3, false}, {"!n", 0, true}, {"!n", 7, false}, {"n - 5", 5, false}, {"n - 5", 4, true},
		// Out of range.
		{"n + 1", api.MaxInt, false}, {"n + 1", api.MaxInt - 1, true}, {"n - 1", -api.MaxInt, false}, {"n * n", 31623, false}, {"n * n", 31622, true},
		{"!(n + 1)", api.MaxInt, false}, {"1 || n + 1", api.MaxInt, true}, {"n + 1 || 1", api.MaxInt, false}, {"0 && n + 1", api.MaxInt, false}, {"!(0 && n + 1)", api.MaxInt, true},
		// Another variable.
		{"m == 7", 0, true}, {"n == m", 7, true}, {"n == m", 0, false},
	} {
		on := 1
		if k.let {
			on = 0
		}
		wantOn(t, compile(t, guarded(k.guard)), Situation{Active: list{0}, Vars: numbers{k.n, 7}}, "e", 0, on)
	}
}

// setting is a chart with an on of e with these sets, of the variables a, b and c, and one behind it without.
func setting(sets string) string {
	return inChart("var a = 0 var b = 0 var c = 0 state A {" + step + "on e go y " + sets + " on e go z }")
}

// P11.2: sets are made one behind the other; if one has no value, the on isn't enabled.
func TestSets(t *testing.T) {
	const most = api.MaxInt
	for _, k := range []struct {
		sets string
		from numbers
		want numbers
	}{
		{"", numbers{1, 2, 3}, numbers{1, 2, 3}},
		{"set b = 9", numbers{1, 2, 3}, numbers{1, 9, 3}},
		{"set a = b set b = a", numbers{1, 2, 3}, numbers{2, 2, 3}},
		{"set c = a set a = b set b = c", numbers{1, 2, 3}, numbers{2, 1, 1}},
		{"set a = a + 1 set a = a * a set b = a set a = -a", numbers{1, 2, 3}, numbers{-4, 4, 3}},
		{"set a = a < b set b = a && c set c = !a", numbers{1, 2, 3}, numbers{1, 1, 0}},
		{"set a = 1000000000 set b = -1000000000", numbers{1, 2, 3}, numbers{most, -most, 3}},
		{"set a = a + 1", numbers{most - 1, 2, 3}, numbers{most, 2, 3}},
		{"set a = a - 1", numbers{1 - most, 2, 3}, numbers{-most, 2, 3}},
		{"set a = -a", numbers{-most, 2, 3}, numbers{most, 2, 3}},
		// The first one makes room for the second one, or takes it.
		{"set a = 0 set a = a + 1", numbers{most, 2, 3}, numbers{1, 2, 3}},
		{"set b = 0 set a = a + b", numbers{most, 1, 3}, numbers{most, 0, 3}},
		{"set a = 1000000000 set a = a + 1", numbers{0, 2, 3}, nil},
		{"set b = 1 set a = a + b", numbers{most, 0, 3}, nil},
		// Out of range, at each place.
		{"set a = a + 1", numbers{most, 2, 3}, nil},
		{"set a = a - 1", numbers{-most, 2, 3}, nil},
		{"set a = a * a", numbers{31623, 2, 3}, nil},
		{"set b = 1 set c = 1 set b = 2 set a = a + 1", numbers{most, 2, 3}, nil},
		{"set a = a + 1 set a = 0", numbers{most, 2, 3}, nil},
		{"set b = a + 1 set a = 0 set b = 0 set c = 0", numbers{most, 2, 3}, nil},
		{"set b = 0 && a + 1", numbers{most, 2, 3}, numbers{most, 0, 3}},
	} {
		c := compile(t, setting(k.sets))
		s := Situation{Active: list{0}, Vars: k.from}
		if k.want == nil {
			wantTake(t, c, s, "e", 0, Situation{list{2}, k.from, nil}, Effect{0, 1, list{0}, list{2}})
		} else {
			wantTake(t, c, s, "e", 0, Situation{list{1}, k.want, nil}, Effect{0, 0, list{0}, list{1}})
		}
	}
}

// P11.2: the guard is asked of the variables as they were ahead of the sets, and sets of the first on count for nothing in the next one.
func TestGuardAheadOfSets(t *testing.T) {
	c := compile(t, inChart("var n = 0 var m = 0 state A {"+step+"on e if n < 3 go y set n = 5 set m = m + 1 on e if n < 3 go z set m = n }"))
	wantTake(t, c, Situation{list{0}, numbers{2, 0}, nil}, "e", 0, Situation{list{1}, numbers{5, 1}, nil}, Effect{0, 0, list{0}, list{1}})
	wantTake(t, c, Situation{list{0}, numbers{2, api.MaxInt}, nil}, "e", 0, Situation{list{2}, numbers{2, 2}, nil}, Effect{0, 1, list{0}, list{2}})
	wantNothing(t, c, Situation{list{0}, numbers{3, 0}, nil}, "e", 0)
}

// P11.2: the first enabled on of a state is taken, whichever those are.
func TestFirstOn(t *testing.T) {
	c := compile(t, inChart("var a = 0 var b = 0 var c = 0 state A {"+step+"on e if a go y on f go z on e if b go z on e if c go y }"))
	ons := list{0, 2, 3}
	for mask := range 8 {
		s := Situation{Active: list{0}, Vars: numbers{int64(mask & 1), int64(mask >> 1 & 1), int64(mask >> 2 & 1)}}
		if mask == 0 {
			wantNothing(t, c, s, "e", 0)
			continue
		}
		wantOn(t, c, s, "e", 0, ons[chosen(mask)[0]])
	}
}

// orderChart has six states that are active together, each with one on, which a variable of the same number lets be taken; how deep they lie stands in their names.
const orderChart = `chart c 1 {
	var a = 0
	var b = 0
	var c = 0
	var d = 0
	var f = 0
	var g = 0
	state deep0 {
		all
		on e if a go z
		state deep1 { do x undo y at 0 retries 0 on e if b go z }
		state deep1b {
			on e if c go z
			state deep2 { do x undo y at 0 retries 0 on e if d go z }
		}
		state deep1c {
			on e if f go z
			state deep2b { do x undo y at 0 retries 0 on e if g go z }
		}
	}
	state z { end }
}`

// P11.2: the deepest state with an enabled on comes first, of states as deep the one of the least number: of each choice of enabled ones.
func TestDeepestFirst(t *testing.T) {
	c := compile(t, orderChart)
	active := list{0, 1, 2, 3, 4, 5}
	order := list{3, 5, 1, 2, 4, 0}
	for mask := range 1 << 6 {
		s := Situation{Active: active, Vars: make(numbers, 6)}
		for _, i := range chosen(mask) {
			s.Vars[i] = 1
		}
		at := slices.IndexFunc(order, func(i int) bool { return mask>>i&1 == 1 })
		if at < 0 {
			wantNothing(t, c, s, "e", 0)
			continue
		}
		wantTake(t, c, s, "e", 0, Situation{list{6}, s.Vars, nil}, Effect{order[at], 0, list{5, 4, 3, 2, 1, 0}, list{6}})
	}
}

// P11.2: an outer state's on is taken, if none of an inner one is enabled, for whatever reason.
func TestOuterInstead(t *testing.T) {
	for _, inner := range []string{"", "on f go y", "on e if 0 go y", "on e if n + 1 go y", "on e go y set n = n + 1"} {
		c := compile(t, inChart("var n = 0 state A { on e go z state B {"+step+inner+" } }"))
		wantTake(t, c, Situation{list{0, 1}, numbers{api.MaxInt}, nil}, "e", 0, Situation{list{3}, numbers{api.MaxInt}, nil}, Effect{0, 0, list{1, 0}, list{3}})
	}
	// Two states are active: the inner one's on would leave what is busy, and so would the outer one's; but one as deep as the inner one wouldn't.
	c := compile(t, "chart c 1 { state A { all on e go z state B { state C {"+step+"on e go D } state D { end } } state E { state F {"+step+"on e go G } state G { end } } } state z { end } }")
	wantTake(t, c, Situation{list{0, 1, 2, 4, 5}, nil, list{2}}, "e", 0, Situation{list{0, 1, 2, 4, 6}, nil, list{2}}, Effect{5, 0, list{5}, list{6}})
	wantTake(t, c, Situation{list{0, 1, 2, 4, 5}, nil, list{5}}, "e", 0, Situation{list{0, 1, 3, 4, 5}, nil, list{5}}, Effect{2, 0, list{2}, list{3}})
	wantNothing(t, c, Situation{list{0, 1, 2, 4, 5}, nil, list{2, 5}}, "e", 0)
}

// P11.2: targets that lie ahead, behind, within, without and at the on's state itself.
func TestTargets(t *testing.T) {
	const text = `chart c 1 {
		state s0 {
			on in go s3
			on self go s0
			state s1 {
				on out go s0
				on self go s1
				state s2 { do x undo y at 0 retries 0 on self go s2 on next go s3 on up go s1 on top go s0 on far go s6 }
				state s3 { do x undo y at 0 retries 0 on back go s2 on both go s5 }
			}
			state s4 { do x undo y at 0 retries 0 }
		}
		state s5 {
			all
			on back go s3
			state s6 { do x undo y at 0 retries 0 on back go s4 on self go s5 }
			state s7 {
				state s8 { do x undo y at 0 retries 0 }
				state s9 { end }
			}
		}
	}`
	c := compile(t, text)
	at := func(active ...int) Situation { return Situation{Active: active} }
	wantTake(t, c, at(0, 1, 2), "in", 0, at(0, 1, 3), Effect{0, 0, list{2, 1, 0}, list{0, 1, 3}})
	wantTake(t, c, at(0, 4), "in", 0, at(0, 1, 3), Effect{0, 0, list{4, 0}, list{0, 1, 3}})
	wantTake(t, c, at(0, 4), "self", 0, at(0, 1, 2), Effect{0, 1, list{4, 0}, list{0, 1, 2}})
	wantTake(t, c, at(0, 1, 3), "self", 0, at(0, 1, 2), Effect{1, 1, list{3, 1}, list{1, 2}})
	wantTake(t, c, at(0, 1, 3), "out", 0, at(0, 1, 2), Effect{1, 0, list{3, 1, 0}, list{0, 1, 2}})
	wantTake(t, c, at(0, 1, 2), "self", 0, at(0, 1, 2), Effect{2, 0, list{2}, list{2}})
	wantTake(t, c, at(0, 1, 2), "next", 0, at(0, 1, 3), Effect{2, 1, list{2}, list{3}})
	wantTake(t, c, at(0, 1, 2), "up", 0, at(0, 1, 2), Effect{2, 2, list{2, 1}, list{1, 2}})
	wantTake(t, c, at(0, 1, 2), "top", 0, at(0, 1, 2), Effect{2, 3, list{2, 1, 0}, list{0, 1, 2}})
	wantTake(t, c, at(0, 1, 2), "far", 0, at(5, 6, 7, 8), Effect{2, 4, list{2, 1, 0}, list{5, 6, 7, 8}})
	wantTake(t, c, at(0, 1, 3), "back", 0, at(0, 1, 2), Effect{3, 0, list{3}, list{2}})
	wantTake(t, c, at(0, 1, 3), "both", 0, at(5, 6, 7, 8), Effect{3, 1, list{3, 1, 0}, list{5, 6, 7, 8}})
	wantTake(t, c, at(5, 6, 7, 9), "back", 0, at(0, 4), Effect{6, 0, list{9, 7, 6, 5}, list{0, 4}})
	wantTake(t, c, at(5, 6, 7, 9), "self", 0, at(5, 6, 7, 8), Effect{6, 1, list{9, 7, 6, 5}, list{5, 6, 7, 8}})
	wantNothing(t, c, Situation{list{5, 6, 7, 8}, nil, list{8}}, "back", 0)
}

// P11.2: the greatest charts: 40 states, 8 variables, 6 ons with 4 sets each, 6 deep.
func TestGreatest(t *testing.T) {
	var b strings.Builder
	b.WriteString("chart c 1 { ")
	for k := range 8 {
		fmt.Fprintf(&b, "var v%d = %d ", k, k)
	}
	ons := strings.Repeat("on e if v0 == 8 go s0 set v7 = v6 set v6 = v7 set v5 = v4 set v4 = v5 ", 5)
	last := "on e if v0 == 0 go s0 set v0 = v1 + 1 set v1 = v0 + 1 set v2 = v1 + 1 set v7 = v2 + 1 "
	b.WriteString("state s0 { " + ons + last + "state s1 { state s2 { state s3 { state s4 { all ")
	for i := 5; i < 40; i++ {
		fmt.Fprintf(&b, "state s%d {%s} ", i, step)
	}
	b.WriteString("} } } } } }")
	c := compile(t, b.String())
	var active, leaves, left list
	for i := range 40 {
		active, left = append(active, i), append(list{i}, left...)
		if i >= 5 {
			leaves = append(leaves, i)
		}
	}
	s := Situation{active, numbers{0, 1, 2, 3, 4, 5, 6, 7}, nil}
	wantStart(t, c, s, api.OK)
	wantTake(t, c, s, "e", 0, Situation{active, numbers{2, 3, 4, 3, 4, 5, 6, 5}, nil}, Effect{0, 5, left, active})
	s.Busy = leaves
	wantFormed(t, c, s, true)
	wantNothing(t, c, s, "e", 0)
	s.Busy = list{39}
	wantNothing(t, c, s, "e", 0)
}
