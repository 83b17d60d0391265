package config

import (
	"tumbrel/api"
	"tumbrel/tree"
)

// set is some states: of each number, whether it is one of theirs.
type set [api.MaxStates]bool

// setOf is the states whose numbers are given: other numbers count for nothing.
func setOf(l []tree.Node, numbers []int) set {
	var s set
	for _, i := range numbers {
		if isState(l, i) {
			s[i] = true
		}
	}
	return s
}

// numbers is the numbers of s, rising.
func (s set) numbers() []int {
	var numbers []int
	for i, in := range s {
		if in {
			numbers = append(numbers, i)
		}
	}
	return numbers
}

// rising tells if all numbers are states', each one greater than the one ahead of it.
func rising(l []tree.Node, numbers []int) bool {
	last := -1
	for _, i := range numbers {
		if i <= last || i >= len(l) {
			return false
		}
		last = i
	}
	return true
}

// isState tells if i is a state's number.
func isState(l []tree.Node, i int) bool {
	return 0 <= i && i < len(l)
}

// holds tells if the state i is outer, or lies in it: all states lie in -1. (Layer 9's Within asks each time if l is formed, which is known here.)
func holds(l []tree.Node, outer, i int) bool {
	return outer == -1 || outer <= i && i < l[outer].Behind
}

// fits tells if of the states right in i, or of those that lie in none if i is -1, as many are on as must be.
func fits(l []tree.Node, on set, i int) bool {
	all, active := 0, 0
	for k, n := range l {
		if n.Parent != i {
			continue
		}
		all++
		if on[k] {
			active++
		}
	}
	switch {
	case i >= 0 && !on[i]:
		return active == 0
	case i >= 0 && (l[i].Leaf || l[i].All):
		return active == all
	}
	return active == 1
}

// follows tells if the state k is entered because the state that it lies right in is, on the way to i or by default.
func follows(l []tree.Node, k, i int) bool {
	outer := l[k].Parent
	switch {
	case l[outer].All:
		return true
	case outer != i && holds(l, outer, i):
		return holds(l, k, i)
	}
	return k == outer+1
}
