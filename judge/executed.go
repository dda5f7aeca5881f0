package judge

import (
	"litmus/api"
	"litmus/arrows"
)

// ranks tells, event by event, of a Write its place in its location's list, from 1 on, and of a Read the rank of what it reads from; what was held at first has rank 0. So a Write stands behind another one, or behind what a Read reads from, if its rank is greater.
func ranks(list []api.Event, from []int, order [][]int) []int {
	rank := make([]int, len(list))
	for _, writes := range order {
		for place, write := range writes {
			if write >= 0 && write < len(rank) {
				rank[write] = place + 1
			}
		}
	}
	for read, write := range from {
		if write >= 0 && write < len(rank) {
			rank[read] = rank[write]
		}
	}
	return rank
}

// executed makes the arrows of an execution.
func executed(list []api.Event, from []int, rank []int) arrows.Set {
	set := arrows.New(len(list))
	for b, to := range list {
		// Only a Read has such a source; an arrow from events.None is none.
		set.Add(from[b], b)
		if to.Kind != api.Write {
			continue
		}
		for a, event := range list {
			if isSameLoc(event, to) && rank[a] < rank[b] {
				set.Add(a, b)
			}
		}
	}
	return set
}
