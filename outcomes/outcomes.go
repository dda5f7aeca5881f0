// Package outcomes: all that can come out (P11).
package outcomes

import (
	"litmus/allowed"
	"litmus/api"
)

// Of tells the states of the allowed candidates, each once, with the number of those that have it; sorted. list: the events of the threads.
func Of(threads [][]api.Instr, list []api.Event) []api.Outcome {
	var all []api.Outcome
	for _, one := range allowed.Cases(threads, list) {
		at := placeFor(all, one.State)
		if at < len(all) && !isLess(one.State, all[at].State) {
			// It is not greater, either, so that the two are the same.
			all[at].Count++
			continue
		}
		all = append(all, api.Outcome{})
		for i := len(all) - 1; i > at; i-- {
			all[i] = all[i-1]
		}
		all[at] = api.Outcome{State: one.State, Count: 1}
	}
	return all
}

// placeFor tells how many of the outcomes, which are sorted, have a lesser state.
func placeFor(all []api.Outcome, held []int) int {
	low := 0
	high := len(all)
	for low < high {
		middle := low + (high-low)/2
		if isLess(all[middle].State, held) {
			low = middle + 1
		} else {
			high = middle
		}
	}
	return low
}

// isLess tells whether a state comes ahead of another one: the first number that is different is less. Both are states of one test, and so equally long.
func isLess(a []int, b []int) bool {
	for i := 0; i < len(a) && i < len(b); i++ {
		if a[i] != b[i] {
			return a[i] < b[i]
		}
	}
	return false
}
