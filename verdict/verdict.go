// Package verdict: whether the condition of a test holds, and which candidate shows it (P12).
package verdict

import (
	"litmus/allowed"
	"litmus/api"
	"litmus/state"
)

// Of reports on a test. list: its events.
func Of(t api.Test, list []api.Event) api.Report {
	good := 0
	bad := 0
	for _, one := range allowed.Cases(t.Threads, list) {
		if holds(t, one.State) {
			good++
		} else {
			bad++
		}
	}
	report := api.Report{Verdict: named(good, bad), Good: good, Bad: bad, Holds: good > 0}
	if t.Forall {
		report.Holds = bad == 0
	}
	return report
}

func named(good int, bad int) int {
	if good == 0 {
		return api.Never
	}
	if bad == 0 {
		return api.Always
	}
	return api.Sometimes
}

// Witness tells the first allowed candidate that decides: with Forall one that speaks against the condition, else one that speaks for it. If there is none, its number is -1. list: the events of the test.
func Witness(t api.Test, list []api.Event) allowed.Case {
	for _, one := range allowed.Cases(t.Threads, list) {
		if holds(t, one.State) != t.Forall {
			return one
		}
	}
	return allowed.Case{Number: -1}
}

// holds tells whether the condition holds in a state.
func holds(t api.Test, held []int) bool {
	for _, atom := range t.Cond {
		at := state.PlaceOf(len(t.Threads), atom.Thread, atom.At)
		if at < 0 || at >= len(held) || held[at] != atom.Val {
			return false
		}
	}
	return true
}
