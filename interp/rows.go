package interp

import (
	"slices"

	"tumbrel/api"
	"tumbrel/config"
	"tumbrel/react"
	"tumbrel/table"
)

// stepDone is the event that the end of a state's step is.
const stepDone = "done"

// canBeCharts tells if t has no more rows and sets than a right chart's table: lists that are shared could stand for more than could be gone through.
func canBeCharts(t table.Table) bool {
	return len(t.Rows) <= api.MaxStates*api.MaxOns &&
		!slices.ContainsFunc(t.Rows, func(r table.Row) bool { return len(r.Sets) > api.MaxSets })
}

// fits tells if s is a situation of the table's chart.
func fits(t table.Table, s react.Situation) bool {
	return config.Legal(t.Nodes, s.Active) &&
		len(s.Vars) == len(t.Vars) &&
		!slices.ContainsFunc(s.Vars, outOfRange) &&
		canBeBusy(t, s.Active, s.Busy)
}

// canBeBusy tells if busy rises, and is of active states with a step.
func canBeBusy(t table.Table, active, busy []int) bool {
	last := -1
	for _, i := range busy {
		if i <= last || !slices.Contains(active, i) || !hasStep(t, i) {
			return false
		}
		last = i
	}
	return true
}

// hasStep tells if the state i has a step.
func hasStep(t table.Table, i int) bool {
	return i < len(t.Steps) && t.Steps[i] != table.Step{}
}

// behind is the situation behind a row's on, and what that did, if it is enabled for its event.
func behind(t table.Table, s react.Situation, r table.Row) (react.Situation, react.Effect, bool) {
	if !slices.Contains(s.Active, r.State) {
		return react.Situation{}, react.Effect{}, false
	}
	left, entered, active := config.Move(t.Nodes, s.Active, r.State, r.Target)
	if holdsBusy(left, s.Busy) || !lets(r.Guard, s.Vars) {
		return react.Situation{}, react.Effect{}, false
	}
	vars, ok := assigned(r.Sets, s.Vars)
	if !ok {
		return react.Situation{}, react.Effect{}, false
	}
	// By append, because a clone of an empty list would still point into the one that was handed in.
	next := react.Situation{Active: active, Vars: vars, Busy: append([]int(nil), s.Busy...)}
	return next, react.Effect{State: r.State, On: r.On, Left: left, Entered: entered}, true
}

// holdsBusy tells if one of the states that are left is busy.
func holdsBusy(left, busy []int) bool {
	return slices.ContainsFunc(left, func(i int) bool { return slices.Contains(busy, i) })
}

// lets tells if a guard, or none, lets its on be taken.
func lets(guard []table.Instr, vars []int64) bool {
	if len(guard) == 0 {
		return true
	}
	value, no := Run(guard, vars)
	return no == api.OK && value != 0
}

// assigned is the variables' numbers behind sets, in new memory, if each of their codes has a value.
func assigned(sets []table.Assign, vars []int64) ([]int64, bool) {
	numbers := append([]int64(nil), vars...)
	for _, set := range sets {
		value, no := Run(set.Code, numbers)
		if no != api.OK || set.Var < 0 || set.Var >= len(numbers) {
			return nil, false
		}
		numbers[set.Var] = value
	}
	return numbers, true
}
