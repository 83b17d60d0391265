package react

import (
	"math"
	"slices"
	"testing"

	"tumbrel/api"
	"tumbrel/chart"
	"tumbrel/check"
	"tumbrel/expr"
	"tumbrel/tree"
)

// dice are numbers that aren't alike, the same ones each time.
type dice uint32

func (d *dice) upTo(n int) int {
	*d = *d*1664525 + 1013904223
	return int(*d>>8) % n
}

// name is a name of its own for each number.
func name(kind string, i int) string {
	return kind + string(rune('a'+i/26)) + string(rune('a'+i%26))
}

// expression is a small one, of some of the variables, which may well be out of range.
func (d *dice) expression(vars []chart.Var, room int) expr.Expr {
	kind := d.upTo(5)
	if room == 0 {
		kind = d.upTo(2)
	}
	switch kind {
	case 0:
		return expr.Lit{N: []int64{0, 1, 2, 3, api.MaxInt}[d.upTo(5)]}
	case 1:
		if len(vars) == 0 {
			return expr.Lit{N: 1}
		}
		return expr.Ref{Name: vars[d.upTo(len(vars))].Name}
	case 2:
		return expr.Not{X: d.expression(vars, room-1)}
	case 3:
		return expr.Neg{X: d.expression(vars, room-1)}
	}
	op := []string{"+", "-", "*", "<", "<=", "==", "!=", "&&", "||"}[d.upTo(9)]
	return expr.Bin{Op: op, L: d.expression(vars, room-1), R: d.expression(vars, room-1)}
}

// number is one that a variable may have, often near an edge.
func (d *dice) number() int64 {
	if d.upTo(3) == 0 {
		return []int64{api.MaxInt, -api.MaxInt, api.MaxInt - 1, 1 - api.MaxInt}[d.upTo(4)]
	}
	return int64(d.upTo(7) - 3)
}

// states is some states without ons that lie in one another, at most room deep, fewer than are left; a state with all lies in none with all.
func (d *dice) states(left *int, next *int, room int, all bool) []chart.State {
	var l []chart.State
	for n := 1 + d.upTo(4); n > 0 && *left > 0; n-- {
		s := chart.State{Name: name("s", *next)}
		*left--
		*next++
		if room > 1 && d.upTo(2) == 0 {
			hold := !all && d.upTo(2) == 0
			s.Inner = d.states(left, next, room-1, all || hold)
			s.All = hold && len(s.Inner) > 1
		}
		switch {
		case len(s.Inner) > 0:
		case d.upTo(4) == 0:
			s.End = true
		default:
			s.Do, s.Undo, s.Where, s.Retries = "x", "y", d.upTo(4), d.upTo(6)
		}
		l = append(l, s)
	}
	return l
}

// giveOns gives states ons that neither leap nor, of done, go back.
func (d *dice) giveOns(c *chart.Chart, l []chart.State, nodes []tree.Node) {
	for k := range l {
		s := &l[k]
		i := tree.Find(nodes, s.Name)
		for n := d.upTo(5); n > 0 && !s.End; n-- {
			event := []string{"done", "e", "f"}[d.upTo(3)]
			to := d.upTo(len(nodes))
			scope := tree.Meet(nodes, i, to)
			if scope >= 0 && nodes[scope].All || event == "done" && (s.Do == "" || to <= i) {
				continue
			}
			o := chart.On{Event: event, Target: nodes[to].Name}
			if d.upTo(2) == 0 {
				o.Guard = d.expression(c.Vars, 3)
			}
			for m := d.upTo(4); m > 0 && len(c.Vars) > 0; m-- {
				o.Sets = append(o.Sets, chart.Set{Name: c.Vars[d.upTo(len(c.Vars))].Name, To: d.expression(c.Vars, 3)})
			}
			s.Ons = append(s.Ons, o)
		}
		d.giveOns(c, s.Inner, nodes)
	}
}

// chart is a right one.
func (d *dice) chart(t *testing.T, most int) chart.Chart {
	t.Helper()
	c := chart.Chart{Name: "c", Version: 1}
	for k := range d.upTo(4) {
		c.Vars = append(c.Vars, chart.Var{Name: name("v", k), N: d.number()})
	}
	left, next := 1+d.upTo(most), 0
	c.States = d.states(&left, &next, api.MaxDeep, false)
	d.giveOns(&c, c.States, tree.Nodes(c))
	if at, e := check.Check(c); e != api.OK {
		t.Fatal(at, e, c)
	}
	return c
}

// placed is a state, and which ones it lies in, the outermost first: what the chapter asks is asked of that, without layers 9 and 10.
type placed struct {
	state chart.State
	in    list
}

// flat is all states in the order of the text.
func flat(l []chart.State, in list, so []placed) []placed {
	for _, s := range l {
		number := len(so)
		so = append(so, placed{s, in})
		so = flat(s.Inner, append(slices.Clone(in), number), so)
	}
	return so
}

// byName is the number of the state of that name.
func byName(all []placed, name string) int {
	return slices.IndexFunc(all, func(p placed) bool { return p.state.Name == name })
}

// enterable is what is entered of the state i, with those on the way to the state to, if that lies in it.
func enterable(all []placed, i, to int) list {
	entered := list{i}
	first := -1
	for _, s := range all[i].state.Inner {
		k := byName(all, s.Name)
		if first < 0 || k == to || slices.Contains(all[to].in, k) {
			first = k
		}
	}
	for _, s := range all[i].state.Inner {
		if k := byName(all, s.Name); all[i].state.All || k == first {
			entered = append(entered, enterable(all, k, to)...)
		}
	}
	return entered
}

// toldMove is what is left and entered from a state to another one, by layer 10's words.
func toldMove(all []placed, active list, from, to int) (left, entered list) {
	common := 0
	for common < len(all[from].in) && common < len(all[to].in) && all[from].in[common] == all[to].in[common] {
		common++
	}
	for i := len(all) - 1; i >= 0; i-- {
		inScope := len(all[i].in) >= common && slices.Equal(all[i].in[:common], all[to].in[:common])
		if inScope && slices.Contains(active, i) {
			left = append(left, i)
		}
	}
	top := to
	if len(all[to].in) > common {
		top = all[to].in[common]
	}
	return left, enterable(all, top, to)
}

// toldSets is the variables behind an on's sets, and whether its guard and all of them have values as they must.
func toldSets(c chart.Chart, s Situation, o chart.On) (numbers, bool) {
	vars := make([]api.Var, len(c.Vars))
	for k, v := range c.Vars {
		vars[k] = api.Var{Name: v.Name, N: s.Vars[k]}
	}
	if o.Guard != nil {
		if n, e := expr.Eval(o.Guard, vars); e != api.OK || n == 0 {
			return nil, false
		}
	}
	for _, set := range o.Sets {
		n, e := expr.Eval(set.To, vars)
		if e != api.OK {
			return nil, false
		}
		for k := range vars {
			if vars[k].Name == set.Name {
				vars[k].N = n
			}
		}
	}
	var after numbers
	for _, v := range vars {
		after = append(after, v.N)
	}
	return after, true
}

// answer is what Take answers.
type answer struct {
	next   Situation
	effect Effect
	deep   int
}

// told is each on that is enabled, in the order of the text, by the chapter's words, of a formed situation of a right chart.
func told(c chart.Chart, s Situation, event string, done int) []answer {
	all := flat(c.States, nil, nil)
	var enabled []answer
	for i, p := range all {
		for k, o := range p.state.Ons {
			if o.Event != event || !slices.Contains(s.Active, i) || event == "done" && i != done {
				continue
			}
			left, entered := toldMove(all, s.Active, i, byName(all, o.Target))
			vars, ok := toldSets(c, s, o)
			for _, busy := range s.Busy {
				ok = ok && !slices.Contains(left, busy)
			}
			if !ok {
				continue
			}
			next := slices.DeleteFunc(slices.Clone(s.Active), func(i int) bool { return slices.Contains(left, i) })
			next = append(next, entered...)
			slices.Sort(next)
			enabled = append(enabled, answer{Situation{next, vars, s.Busy}, Effect{i, k, left, entered}, len(p.in)})
		}
	}
	return enabled
}

// wantTold fails if Take isn't as it is told; it answers what Take does, and how many ons were enabled.
func wantTold(t *testing.T, c chart.Chart, s Situation, event string, done int) (Situation, int) {
	t.Helper()
	enabled := told(c, s, event, done)
	if len(enabled) == 0 {
		wantNothing(t, c, s, event, done)
		return s, 0
	}
	best := enabled[0]
	for _, a := range enabled {
		// In the order of the text: so of as deep ones the first one stays.
		if a.deep > best.deep {
			best = a
		}
	}
	wantTake(t, c, s, event, done, best.next, best.effect)
	return best.next, len(enabled)
}

// someBusy is some of the active states that have a step.
func (d *dice) someBusy(c chart.Chart, active list) list {
	var busy list
	nodes := tree.Nodes(c)
	for _, i := range active {
		if nodes[i].Leaf && !nodes[i].End && d.upTo(4) == 0 {
			busy = append(busy, i)
		}
	}
	return busy
}

// P11.1 to P11.3: long ways through many charts; each step is as it is told, and what comes of it is formed.
func TestLongWays(t *testing.T) {
	d := dice(11)
	taken, among, ends := 0, 0, 0
	for range 1500 {
		c := d.chart(t, 14)
		s, e := Start(c)
		if e != api.OK {
			t.Fatal(e, c)
		}
		for range 25 {
			wantFormed(t, c, s, true)
			s.Busy = d.someBusy(c, s.Active)
			if d.upTo(4) == 0 {
				for k := range s.Vars {
					s.Vars[k] = d.number()
				}
			}
			event := []string{"done", "e", "f", "g"}[d.upTo(4)]
			done := s.Active[len(s.Active)-1-d.upTo(min(2, len(s.Active)))]
			next, enabled := wantTold(t, c, s, event, done)
			if enabled > 0 {
				taken++
			} else {
				ends++
			}
			if enabled > 1 {
				among++
			}
			s = Situation{slices.Clone(next.Active), slices.Clone(next.Vars), nil}
		}
	}
	if taken < 5000 || among < 1000 || ends < 5000 {
		t.Error(taken, among, ends)
	}
}

// P11.3: all that comes of a start, by any event, any state that is done, and whatever is busy, is formed.
func TestFormedStays(t *testing.T) {
	for _, text := range []string{pay, busyChart, orderChart} {
		c := compile(t, text)
		s, _ := Start(c)
		var names []string
		for _, p := range flat(c.States, nil, nil) {
			for _, o := range p.state.Ons {
				names = append(names, o.Event)
			}
		}
		nodes := tree.Nodes(c)
		seen := map[[api.MaxStates]bool]int{}
		todo := []Situation{s}
		for len(todo) > 0 {
			s, todo = todo[0], todo[1:]
			var key [api.MaxStates]bool
			for _, i := range s.Active {
				key[i] = true
			}
			if seen[key]++; seen[key] > 3 {
				continue
			}
			var steps list
			for _, i := range s.Active {
				if nodes[i].Leaf && !nodes[i].End {
					steps = append(steps, i)
				}
			}
			for mask := range 1 << len(steps) {
				s.Busy = nil
				for _, k := range chosen(mask) {
					s.Busy = append(s.Busy, steps[k])
				}
				wantFormed(t, c, s, true)
				for _, event := range names {
					for done := range nodes {
						if next, _ := wantTold(t, c, s, event, done); Formed(c, next) {
							todo = append(todo, next)
						} else {
							t.Error(s, event, done, next)
						}
					}
				}
			}
		}
		if text == busyChart && len(seen) != 3*2+1 {
			t.Error(len(seen))
		}
	}
}

// strange is numbers at the edges, and near states' ones.
func (d *dice) strange() int {
	edges := list{math.MinInt, math.MaxInt, math.MinInt32, math.MaxInt32, 1 << 32, -1}
	if d.upTo(4) > 0 {
		return d.upTo(12) - 2
	}
	return edges[d.upTo(len(edges))]
}

// strangeList is up to most such numbers.
func (d *dice) strangeList(most int) list {
	l := make(list, d.upTo(most+1))
	for i := range l {
		l[i] = d.strange()
	}
	return l
}

// R1, R5, P11.1, P11.2: of any situations all calls end, and none panics; what is taken is taken of a formed one.
func TestAnySituations(t *testing.T) {
	d := dice(5)
	formed := 0
	for range 300 {
		c := d.chart(t, 8)
		for range 100 {
			s, _ := Start(c)
			switch d.upTo(4) {
			case 0:
				s.Active = d.strangeList(5)
			case 1:
				s.Busy = d.strangeList(3)
			case 2:
				s.Vars = append(s.Vars[:d.upTo(len(s.Vars)+1)], int64(d.strange()))
			}
			event, done := []string{"done", "e", "f", ""}[d.upTo(4)], d.strange()
			if Formed(c, s) {
				formed++
				wantTold(t, c, s, event, done)
			} else {
				wantNothing(t, c, s, event, done)
			}
		}
	}
	if formed < 5000 || formed > 25000 {
		t.Error(formed)
	}
}

// loud is an expression of another type.
type loud struct{}

func (loud) Kind() int { panic("asked") }

// R1: charts that lie in themselves, that share what lies in them, that have other types of expressions, and very long ones.
func TestAnyCharts(t *testing.T) {
	good := chart.State{Name: "A", Do: "x", Undo: "y"}
	one := func(o chart.On) chart.Chart {
		s := good
		s.Ons = []chart.On{o}
		return chart.Chart{Name: "c", States: []chart.State{s, {Name: "z", End: true}}}
	}
	var nothing *expr.Lit
	itself := []chart.State{{Name: "A"}}
	itself[0].Inner = itself
	shared := []chart.State{{Name: "A", End: true}}
	for range 5 {
		var wider []chart.State
		for range 5000 {
			wider = append(wider, chart.State{Name: "A", Inner: shared})
		}
		shared = wider
	}
	doubled := expr.Expr(expr.Ref{Name: "n"})
	for range 200 {
		doubled = expr.Bin{Op: "+", L: doubled, R: doubled}
	}
	for _, c := range []chart.Chart{
		{},
		{Name: "c", States: itself},
		{Name: "c", States: shared},
		{Name: "c", States: make([]chart.State, 1<<20)},
		{Name: "c", Vars: make([]chart.Var, 1<<20), States: []chart.State{good}},
		one(chart.On{Event: "e", Target: "z", Guard: loud{}}),
		one(chart.On{Event: "e", Target: "z", Guard: nothing}),
		one(chart.On{Event: "e", Target: "z", Guard: doubled}),
		one(chart.On{Event: "e", Target: "z", Guard: expr.Not{}}),
		one(chart.On{Event: "e", Target: "z", Guard: &expr.Lit{N: 1}}),
		one(chart.On{Event: "e", Target: "z", Sets: make([]chart.Set, 1<<20)}),
		one(chart.On{Event: "e", Target: "z", Sets: []chart.Set{{Name: "n", To: loud{}}}}),
		one(chart.On{Event: "\xff", Target: "z"}),
	} {
		wantNoSituation(t, c)
	}
	wantTake(t, one(chart.On{Event: "e", Target: "z"}), Situation{Active: list{0}}, "e", 0, Situation{Active: list{1}}, Effect{0, 0, list{0}, list{1}})
}

// R1: very long lists of a situation.
func TestLongSituations(t *testing.T) {
	c := compile(t, pay)
	long := make(list, 1<<22)
	for i := range long {
		long[i] = i
	}
	for _, s := range []Situation{{long, numbers{0, 0}, nil}, {list{0}, make(numbers, 1<<22), nil}, {list{0}, numbers{0, 0}, long}} {
		wantFormed(t, c, s, false)
		wantNothing(t, c, s, "done", 0)
	}
}

// R2, R5: what is asked once more is answered alike, whatever was asked between.
func TestNothingIsKept(t *testing.T) {
	one, two := compile(t, pay), compile(t, busyChart)
	for range 3 {
		wantStart(t, one, Situation{list{0}, numbers{0, -5}, nil}, api.OK)
		wantStart(t, chart.Chart{}, Situation{}, api.ErrArg)
		wantStart(t, two, Situation{list{0, 1, 2, 3, 6, 7}, nil, nil}, api.OK)
		wantTake(t, one, Situation{list{0}, numbers{0, -5}, nil}, "done", 0, Situation{list{1, 2, 3, 5}, numbers{1, -1}, nil}, Effect{0, 0, list{0}, list{1, 2, 3, 5}})
		wantNothing(t, one, Situation{list{0}, numbers{3, -5}, nil}, "done", 0)
		wantNothing(t, two, Situation{list{0}, numbers{0, -5}, nil}, "done", 0)
		wantFormed(t, one, Situation{list{0}, numbers{0, 0}, list{0}}, true)
		wantFormed(t, two, Situation{list{0}, numbers{0, 0}, list{0}}, false)
	}
}

// R4: lists of no elements are alike, nil or empty.
func TestNoElements(t *testing.T) {
	c := compile(t, "chart c 1 { state A {"+step+"on e go z } state z { end } }")
	bare := chart.Strip(c)
	bare.Vars, bare.States[0].Inner, bare.States[0].Ons[0].Sets = []chart.Var{}, []chart.State{}, []chart.Set{}
	for _, c := range []chart.Chart{c, bare} {
		wantStart(t, c, Situation{list{0}, nil, nil}, api.OK)
		for _, s := range []Situation{{list{0}, nil, nil}, {list{0}, numbers{}, list{}}, {list{0}, make(numbers, 0, 9), make(list, 0, 9)}} {
			wantTake(t, c, s, "e", 0, Situation{list{1}, nil, nil}, Effect{0, 0, list{0}, list{1}})
		}
	}
	c = compile(t, pay)
	for _, none := range []list{nil, {}, make(list, 0, 9)} {
		wantFormed(t, c, Situation{none, numbers{0, 0}, nil}, false)
		wantFormed(t, c, Situation{list{0}, numbers{0, 0}, none}, true)
	}
}

// roomy is a copy of a list with spare room, in which something stands.
func roomy[T any](from []T, spare T) []T {
	room := slices.Clone(from)
	for range 50 {
		room = append(room, spare)
	}
	return room[:len(from)]
}

// roomyStates is a copy of states, all lists with spare room.
func roomyStates(from []chart.State) []chart.State {
	l := roomy(from, chart.State{Name: "spare", End: true})
	for i := range l {
		l[i].Inner = roomyStates(l[i].Inner)
		l[i].Ons = roomy(l[i].Ons, chart.On{Event: "e", Target: "spare"})
		for k := range l[i].Ons {
			l[i].Ons[k].Sets = roomy(l[i].Ons[k].Sets, chart.Set{Name: "spare", To: expr.Lit{N: 1}})
		}
	}
	return l
}

// roomyChart is a copy of c, all lists with spare room.
func roomyChart(c chart.Chart) chart.Chart {
	c.Vars = roomy(c.Vars, chart.Var{Name: "spare", N: 1})
	c.States = roomyStates(c.States)
	return c
}

// whole is c with all spare room as members, so that two can be compared.
func whole(c chart.Chart) chart.Chart {
	var open func(l []chart.State) []chart.State
	open = func(l []chart.State) []chart.State {
		l = slices.Clone(l[:cap(l)])
		for i := range l {
			l[i].Inner, l[i].Ons = open(l[i].Inner), slices.Clone(l[i].Ons[:cap(l[i].Ons)])
			for k, o := range l[i].Ons {
				l[i].Ons[k].Sets = slices.Clone(o.Sets[:cap(o.Sets)])
			}
		}
		return l
	}
	c.Vars, c.States = slices.Clone(c.Vars[:cap(c.Vars)]), open(c.States)
	return c
}

// R3: what is handed in is left as it is, its spare room too, and the spare room counts for nothing.
func TestArgumentsAreLeft(t *testing.T) {
	d := dice(3)
	for range 60 {
		plain := d.chart(t, 8)
		c := roomyChart(plain)
		before := whole(c)
		s, _ := Start(plain)
		wantStart(t, c, s, api.OK)
		for range 20 {
			s.Busy = d.someBusy(c, s.Active)
			handed := Situation{roomy(s.Active, 1), roomy(s.Vars, 1), roomy(s.Busy, 1)}
			active, vars, busy := slices.Clone(handed.Active[:cap(handed.Active)]), slices.Clone(handed.Vars[:cap(handed.Vars)]), slices.Clone(handed.Busy[:cap(handed.Busy)])
			event, done := []string{"done", "e", "f"}[d.upTo(3)], s.Active[d.upTo(len(s.Active))]
			n, e, ok := Take(c, handed, event, done)
			wantFormed(t, c, handed, true)
			if next, effect, same := Take(plain, s, event, done); same != ok || !sameSituation(next, n) || !sameEffect(effect, e) {
				t.Error("spare room counts", s, event, done)
			}
			if !slices.Equal(active, handed.Active[:cap(handed.Active)]) || !slices.Equal(vars, handed.Vars[:cap(handed.Vars)]) || !slices.Equal(busy, handed.Busy[:cap(handed.Busy)]) {
				t.Error("a situation is changed", s, event, done)
			}
			if ok {
				s = n
			}
		}
		if !chart.Same(whole(c), before) {
			t.Error("a chart is changed", plain)
		}
	}
}

// wantOwnMemory fails if one of the lists, its spare room too, shares memory with another one.
func wantOwnMemory[T int | int64](t *testing.T, lists ...[]T) {
	t.Helper()
	for i, a := range lists {
		a = a[:cap(a)]
		for k := range a {
			a[k] = T(-100 - i)
		}
	}
	for i, a := range lists {
		for _, x := range a[:cap(a)] {
			if x != T(-100-i) {
				t.Error("shared memory:", i)
			}
		}
	}
}

// R3: what is answered is new memory, and no two lists of one answer share any.
func TestAnswersAreNew(t *testing.T) {
	pays, busies := compile(t, pay), compile(t, busyChart)
	for _, k := range []struct {
		c     chart.Chart
		s     Situation
		event string
		done  int
	}{
		{pays, Situation{list{0}, numbers{0, 0}, nil}, "done", 0},
		{pays, Situation{list{0}, numbers{0, 0}, nil}, "stop", 0},
		{pays, Situation{list{1, 2, 3, 5}, numbers{0, 0}, list{5}}, "done", 3},
		{busies, Situation{list{0, 1, 2, 3, 6, 7}, nil, list{7}}, "far", 0},
		{busies, Situation{list{0, 1, 2, 3, 6, 7}, nil, list{3}}, "done", 7},
	} {
		s := Situation{roomy(k.s.Active, 1), roomy(k.s.Vars, 1), roomy(k.s.Busy, 1)}
		n, e, ok := Take(k.c, s, k.event, k.done)
		again, effect, _ := Take(k.c, s, k.event, k.done)
		one, _ := Start(k.c)
		two, _ := Start(k.c)
		if !ok {
			t.Error(k)
		}
		wantOwnMemory(t, s.Active, s.Busy, n.Active, n.Busy, e.Left, e.Entered, again.Active, again.Busy, effect.Left, effect.Entered, one.Active, one.Busy, two.Active, two.Busy)
		wantOwnMemory(t, s.Vars, n.Vars, again.Vars, one.Vars, two.Vars)
	}
}

// R2: places count for nothing.
func TestPlacesCountForNothing(t *testing.T) {
	c := compile(t, pay)
	for _, s := range []Situation{{list{0}, numbers{1, 1}, nil}, {list{1, 2, 3, 5}, numbers{1, 1}, list{5}}} {
		for done := range 7 {
			n, e, ok := Take(c, s, "done", done)
			if m, f, same := Take(chart.Strip(c), s, "done", done); same != ok || !sameSituation(n, m) || !sameEffect(e, f) {
				t.Error(s, done)
			}
		}
	}
}
