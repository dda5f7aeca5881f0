// Package litmus: what small programs of several threads may read: see DOC.md.
package litmus

import (
	"litmus/api"
	"litmus/candidates"
	"litmus/check"
	"litmus/events"
	"litmus/judge"
	"litmus/outcomes"
	"litmus/state"
	"litmus/verdict"
)

// Check tells whether a test may be, and where it may not (P3).
func Check(t api.Test) (api.Errno, int) {
	fault := check.Find(t)
	return fault.Err, fault.Place
}

// Events tells the events of a test (P4).
func Events(t api.Test) ([]api.Event, api.Errno) {
	fault := check.Find(t)
	if fault.Err != api.OK {
		return nil, fault.Err
	}
	return events.List(t.Threads), api.OK
}

// Size tells how many candidates there are (P5).
func Size(t api.Test) (int, api.Errno) {
	fault := check.Find(t)
	if fault.Err != api.OK {
		return 0, fault.Err
	}
	list := events.List(t.Threads)
	return candidates.Count(list), api.OK
}

// Candidate makes the candidate with a number (P5).
func Candidate(t api.Test, n int) (api.Exec, api.Errno) {
	fault := check.Find(t)
	if fault.Err != api.OK {
		return api.Exec{}, fault.Err
	}
	list := events.List(t.Threads)
	return candidates.Nth(list, n)
}

// Judge tells whether an execution is allowed, and if not, why not (P6 to P9, P13).
func Judge(t api.Test, x api.Exec) (int, api.Errno) {
	fault := check.Find(t)
	if fault.Err != api.OK {
		return 0, fault.Err
	}
	list := events.List(t.Threads)
	if !candidates.Has(list, x) {
		return 0, api.ErrExec
	}
	return judge.Of(t.Threads, list, x), api.OK
}

// State tells what registers and locations hold behind an allowed execution (P10).
func State(t api.Test, x api.Exec) ([]int, api.Errno) {
	judgement, err := Judge(t, x)
	if err != api.OK {
		return nil, err
	}
	if judgement != api.Allowed {
		return nil, api.ErrForbidden
	}
	list := events.List(t.Threads)
	return state.Of(t.Threads, list, x), api.OK
}

// Outcomes tells all that can come out (P11).
func Outcomes(t api.Test) ([]api.Outcome, api.Errno) {
	fault := check.Find(t)
	if fault.Err != api.OK {
		return nil, fault.Err
	}
	list := events.List(t.Threads)
	return outcomes.Of(t.Threads, list), api.OK
}

// Verdict tells whether the condition holds (P12).
func Verdict(t api.Test) (api.Report, api.Errno) {
	fault := check.Find(t)
	if fault.Err != api.OK {
		return api.Report{}, fault.Err
	}
	list := events.List(t.Threads)
	return verdict.Of(t, list), api.OK
}

// Witness shows the first candidate that decides (P12).
func Witness(t api.Test) (int, api.Exec, api.Errno) {
	fault := check.Find(t)
	if fault.Err != api.OK {
		return 0, api.Exec{}, fault.Err
	}
	list := events.List(t.Threads)
	one := verdict.Witness(t, list)
	return one.Number, one.Exec, api.OK
}
