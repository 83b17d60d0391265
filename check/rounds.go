package check

import (
	"slices"

	"tumbrel/api"
	"tumbrel/chart"
	"tumbrel/expr"
)

// done is the event that a step's end is.
const done = "done"

// round is what is asked of all of a chart, ahead of the next round: the place of the first thing that is wrong, if one is.
type round struct {
	no  api.Errno
	ask func() (api.Pos, bool)
}

// rounds are in the order in which they are asked. Behind the first one there are few states and variables.
func (l *layout) rounds() []round {
	return []round{
		{api.ErrLong, l.tooMany},
		{api.ErrName, l.namedTwice},
		{api.ErrRange, l.outOfRange},
		{api.ErrNone, l.unknown},
		{api.ErrLeaf, l.misplaced},
		{api.ErrTarget, l.astray},
		{api.ErrBack, l.backward},
	}
}

// tooMany asks how many variables, states, ons and sets there are.
func (l *layout) tooMany() (api.Pos, bool) {
	if len(l.chart.Vars) > api.MaxVars {
		return l.chart.Vars[api.MaxVars].At, true
	}
	if len(l.states) == 0 {
		return l.chart.At, true
	}
	return l.first(
		func(i int) bool { return i == api.MaxStates },
		func(i, j int) bool { return j == api.MaxOns || len(l.states[i].Ons[j].Sets) > api.MaxSets })
}

// namedTwice asks for a variable, or a state, whose name an earlier one has.
func (l *layout) namedTwice() (api.Pos, bool) {
	for k, v := range l.chart.Vars {
		if l.variable(v.Name) < k {
			return v.At, true
		}
	}
	return l.firstState(func(i int, s chart.State) bool {
		return l.state(s.Name) < i
	})
}

// outOfRange asks for the numbers of steps.
func (l *layout) outOfRange() (api.Pos, bool) {
	return l.firstState(func(_ int, s chart.State) bool {
		return s.Where >= api.Participants || s.Retries > api.MaxRetries
	})
}

// unknown asks for names of variables that are none's.
func (l *layout) unknown() (api.Pos, bool) {
	return l.firstOn(func(_ int, o chart.On) bool {
		return l.asksUnknown(o.Guard) || slices.ContainsFunc(o.Sets, l.setsUnknown)
	})
}

// asksUnknown tells if an expression, or none, has a Ref that is no variable's.
func (l *layout) asksUnknown(e expr.Expr) bool {
	return slices.ContainsFunc(expr.Refs(e), l.noVariable)
}

// setsUnknown tells if a set's name, or a Ref in its expression, is no variable's.
func (l *layout) setsUnknown(s chart.Set) bool {
	return l.noVariable(s.Name) || l.asksUnknown(s.To)
}

// noVariable tells if a name is no variable's.
func (l *layout) noVariable(name string) bool {
	return l.variable(name) < 0
}

// misplaced asks for steps, ends, all and ons where they mayn't be, and for leaves that are nothing.
func (l *layout) misplaced() (api.Pos, bool) {
	return l.first(
		func(i int) bool { return misplacedKind(l.states[i]) },
		func(i, j int) bool { return l.states[i].Ons[j].Event == done && !step(l.states[i]) })
}

// misplacedKind tells if a state is of a kind that it mayn't be with the states and ons that it has.
func misplacedKind(s chart.State) bool {
	leaf := len(s.Inner) == 0
	return leaf != (step(s) || s.End) ||
		s.All && (len(s.Inner) < 2 || holdAll(s.Inner)) ||
		s.End && len(s.Ons) > 0
}

// step tells if a state that is formed has a step.
func step(s chart.State) bool {
	return s.Do != ""
}

// holdAll tells if one of these states, or of those that lie in them, has all.
func holdAll(list []chart.State) bool {
	return slices.ContainsFunc(list, func(s chart.State) bool { return s.All || holdAll(s.Inner) })
}

// astray asks for targets that are no states, and for leaps.
func (l *layout) astray() (api.Pos, bool) {
	return l.firstOn(func(i int, o chart.On) bool {
		to := l.state(o.Target)
		return to < 0 || l.leaps(i, to)
	})
}

// leaps tells if an on from the one state to the other leads out of one of the states that are active together, into another one.
func (l *layout) leaps(from, to int) bool {
	scope := l.meet(from, to)
	return scope >= 0 && l.states[scope].All
}

// backward asks for ons of done that don't go forward.
func (l *layout) backward() (api.Pos, bool) {
	return l.firstOn(func(i int, o chart.On) bool {
		return o.Event == done && l.state(o.Target) <= i
	})
}
