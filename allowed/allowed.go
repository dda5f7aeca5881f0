// Package allowed: the candidates of a test that are allowed (P11, P12).
package allowed

import (
	"litmus/api"
	"litmus/candidates"
	"litmus/judge"
	"litmus/state"
)

// Case: an allowed candidate, and what is held behind it.
type Case struct {
	Number int
	Exec   api.Exec
	State  []int
}

// Cases tells the allowed candidates by their numbers. list: the events of the threads.
func Cases(threads [][]api.Instr, list []api.Event) []Case {
	var all []Case
	size := candidates.Count(list)
	for n := 0; n < size; n++ {
		x, err := candidates.Nth(list, n)
		if err != api.OK {
			break
		}
		if judge.Of(threads, list, x) == api.Allowed {
			held := state.Of(threads, list, x)
			all = append(all, Case{Number: n, Exec: x, State: held})
		}
	}
	return all
}
