package tree

import (
	"iter"

	"tumbrel/chart"
)

// states is all of c's states in the order of the text, each with how deep it lies.
func states(c chart.Chart) iter.Seq2[int, chart.State] {
	return func(yield func(int, chart.State) bool) {
		// What is left of each list that is gone through, the outermost first. No calls within calls: nothing bounds how deep states lie here.
		left := [][]chart.State{c.States}
		for len(left) > 0 {
			depth := len(left) - 1
			list := left[depth]
			if len(list) == 0 {
				left = left[:depth]
				continue
			}
			if !yield(depth, list[0]) {
				return
			}
			left[depth] = list[1:]
			left = append(left, list[0].Inner)
		}
	}
}

// copied is s in new memory: layer 6 makes that, but without places.
func copied(s chart.State) chart.State {
	old := []chart.State{s}
	fresh := chart.Strip(chart.Chart{States: old}).States
	putPlaces(fresh, old)
	return fresh[0]
}

// pair is two lists of states that are alike but for places.
type pair struct {
	to, from []chart.State
}

// putPlaces gives states, and all that lies in them, the places of others that are alike.
func putPlaces(to, from []chart.State) {
	todo := []pair{{to, from}}
	for len(todo) > 0 {
		last := len(todo) - 1
		p := todo[last]
		todo = todo[:last]
		for i := range p.to {
			putOwnPlaces(&p.to[i], p.from[i])
			todo = append(todo, pair{p.to[i].Inner, p.from[i].Inner})
		}
	}
}

// putOwnPlaces is putPlaces of one state without those that lie in it.
func putOwnPlaces(to *chart.State, from chart.State) {
	to.At = from.At
	for i := range to.Ons {
		to.Ons[i].At = from.Ons[i].At
	}
}
