package check

import (
	"slices"

	"tumbrel/api"
	"tumbrel/chart"
)

// layout is a chart whose states stand in one list, in the order of the text, each with the number of the one that it lies right in (-1: none).
type layout struct {
	chart  chart.Chart
	states []chart.State
	outer  []int
}

// laidOut lays out no more than one state too many: lists that are shared can make a chart far larger than its memory.
func laidOut(c chart.Chart) *layout {
	l := &layout{chart: c}
	l.add(c.States, -1)
	return l
}

// add lays out states that lie right in that one.
func (l *layout) add(list []chart.State, outer int) {
	for _, s := range list {
		if len(l.states) > api.MaxStates {
			return
		}
		number := len(l.states)
		l.states = append(l.states, s)
		l.outer = append(l.outer, outer)
		l.add(s.Inner, number)
	}
}

// first is the place of the first thing that is wrong: each state is asked ahead of its ons.
func (l *layout) first(state func(i int) bool, on func(i, j int) bool) (api.Pos, bool) {
	for i, s := range l.states {
		if state(i) {
			return s.At, true
		}
		for j, o := range s.Ons {
			if on(i, j) {
				return o.At, true
			}
		}
	}
	return api.Pos{}, false
}

// firstState is first, if nothing is asked of ons.
func (l *layout) firstState(wrong func(i int, s chart.State) bool) (api.Pos, bool) {
	return l.first(
		func(i int) bool { return wrong(i, l.states[i]) },
		func(i, j int) bool { return false })
}

// firstOn is first, if nothing is asked of states themselves. An on is asked with the number of its state.
func (l *layout) firstOn(wrong func(i int, o chart.On) bool) (api.Pos, bool) {
	return l.first(
		func(i int) bool { return false },
		func(i, j int) bool { return wrong(i, l.states[i].Ons[j]) })
}

// state is the number of the first state of that name: -1 if there is none.
func (l *layout) state(name string) int {
	return slices.IndexFunc(l.states, func(s chart.State) bool { return s.Name == name })
}

// variable is the number of the first variable of that name: -1 if there is none.
func (l *layout) variable(name string) int {
	return slices.IndexFunc(l.chart.Vars, func(v chart.Var) bool { return v.Name == name })
}

// meet is the innermost state that both lie in, neither being it: -1 if there is none.
func (l *layout) meet(i, j int) int {
	for a := l.outer[i]; a >= 0; a = l.outer[a] {
		for b := l.outer[j]; b >= 0; b = l.outer[b] {
			if a == b {
				return a
			}
		}
	}
	return -1
}
