package react

import (
	"cmp"
	"slices"

	"tumbrel/api"
	"tumbrel/chart"
	"tumbrel/check"
	"tumbrel/config"
	"tumbrel/expr"
	"tumbrel/tree"
)

// stepDone is the event that the end of a state's step is.
const stepDone = "done"

// rightNodes is c's nodes, if c is right.
func rightNodes(c chart.Chart) ([]tree.Node, bool) {
	// Layer 9 stops at one state too many, so it is asked first: lists that are shared can stand for more states than layer 8 could go through.
	nodes := tree.Nodes(c)
	if len(nodes) == 0 || !check.Right(c) {
		return nil, false
	}
	return nodes, true
}

// fits tells if s is a situation of c, which is right.
func fits(c chart.Chart, nodes []tree.Node, s Situation) bool {
	return config.Legal(nodes, s.Active) &&
		len(s.Vars) == len(c.Vars) &&
		!slices.ContainsFunc(s.Vars, outOfRange) &&
		canBeBusy(nodes, s.Active, s.Busy)
}

// outOfRange tells if n can be no variable's number.
func outOfRange(n int64) bool {
	return n < -api.MaxInt || n > api.MaxInt
}

// canBeBusy tells if busy rises, and is of active states with a step.
func canBeBusy(nodes []tree.Node, active, busy []int) bool {
	last := -1
	for _, i := range busy {
		if i <= last || !slices.Contains(active, i) || !hasStep(nodes[i]) {
			return false
		}
		last = i
	}
	return true
}

// hasStep tells if a state of a right chart has a step: just those leaves do that are no ends.
func hasStep(n tree.Node) bool {
	return n.Leaf && !n.End
}

// named is the chart's variables with the situation's numbers, as many.
func named(vars []chart.Var, numbers []int64) []api.Var {
	var list []api.Var
	for k, v := range vars {
		list = append(list, api.Var{Name: v.Name, N: numbers[k]})
	}
	return list
}

// moment is a situation of a right chart, with what each of its ons is asked by.
type moment struct {
	nodes []tree.Node
	now   Situation
	vars  []api.Var
}

// innermostFirst is the active states in the order in which their ons are asked.
func (m moment) innermostFirst() []int {
	order := slices.Clone(m.now.Active)
	slices.SortFunc(order, func(i, k int) int {
		return cmp.Or(cmp.Compare(m.nodes[k].Depth, m.nodes[i].Depth), cmp.Compare(i, k))
	})
	return order
}

// behind is the situation behind an on of the active state i, and what it left and entered, if it is enabled for its event.
func (m moment) behind(i int, o chart.On) (next Situation, left, entered []int, enabled bool) {
	left, entered, active := config.Move(m.nodes, m.now.Active, i, tree.Find(m.nodes, o.Target))
	if slices.ContainsFunc(left, m.busy) || !m.lets(o.Guard) {
		return Situation{}, nil, nil, false
	}
	vars, ok := m.assigned(o.Sets)
	if !ok {
		return Situation{}, nil, nil, false
	}
	// By append, because a clone of an empty list would still point into the one that was handed in.
	busy := append([]int(nil), m.now.Busy...)
	return Situation{active, vars, busy}, left, entered, true
}

// busy tells if the step of the state i is under way.
func (m moment) busy(i int) bool {
	return slices.Contains(m.now.Busy, i)
}

// lets tells if a guard, or none, lets its on be taken.
func (m moment) lets(e expr.Expr) bool {
	if e == nil {
		return true
	}
	value, no := expr.Eval(e, m.vars)
	return no == api.OK && value != 0
}

// assigned is the variables' numbers behind sets, if each of their expressions has a value.
func (m moment) assigned(sets []chart.Set) ([]int64, bool) {
	vars := slices.Clone(m.vars)
	for _, s := range sets {
		value, no := expr.Eval(s.To, vars)
		if no != api.OK {
			return nil, false
		}
		k := slices.IndexFunc(vars, func(v api.Var) bool { return v.Name == s.Name })
		vars[k].N = value
	}
	var numbers []int64
	for _, v := range vars {
		numbers = append(numbers, v.N)
	}
	return numbers, true
}
