package table

import (
	"cmp"
	"slices"
	"strings"

	"tumbrel/api"
	"tumbrel/chart"
	"tumbrel/check"
	"tumbrel/expr"
	"tumbrel/tree"
)

// rightNodes is c's nodes, if c is right.
func rightNodes(c chart.Chart) ([]tree.Node, bool) {
	// Layer 9 stops at one state too many, so it is asked first: lists that are shared can stand for more states than layer 8 could go through.
	nodes := tree.Nodes(c)
	if len(nodes) == 0 || !check.Right(c) {
		return nil, false
	}
	return nodes, true
}

// withoutPlaces is a chart's variables as a table has them, in new memory.
func withoutPlaces(vars []chart.Var) []api.Var {
	var list []api.Var
	for _, v := range vars {
		list = append(list, api.Var{Name: strings.Clone(v.Name), N: v.N})
	}
	return list
}

// deepestFirst is the numbers of the nodes in the order in which their ons are looked at.
func deepestFirst(nodes []tree.Node) []int {
	var order []int
	for i := range nodes {
		order = append(order, i)
	}
	slices.SortFunc(order, func(i, k int) int {
		return cmp.Or(cmp.Compare(nodes[k].Depth, nodes[i].Depth), cmp.Compare(i, k))
	})
	return order
}

// row is the state i's on k, by the nodes and the variables of the table, in which all that it names is. The on is memory of our own.
func (t Table) row(i, k int, o chart.On) Row {
	target := tree.Find(t.Nodes, o.Target)
	r := Row{State: i, On: k, Event: o.Event, Target: target, Scope: tree.Meet(t.Nodes, i, target)}
	if o.Guard != nil {
		r.Guard = t.code(o.Guard)
	}
	for _, s := range o.Sets {
		r.Sets = append(r.Sets, Assign{numberOf(t.Vars, s.Name), t.code(s.To)})
	}
	return r
}

// code is an expression's code by the table's variables. A right chart's expressions are formed, and all their Refs are variables', so there is no error.
func (t Table) code(e expr.Expr) []Instr {
	code, _ := Code(e, t.Vars)
	return code
}
