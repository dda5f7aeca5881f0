// Package check: which tests may be, and where one may not (P3).
package check

import (
	"litmus/api"
	"litmus/candidates"
	"litmus/events"
)

// Fault: what is wrong with a test, and at which place; all 0 if nothing is.
type Fault struct {
	Err   api.Errno
	Place int
}

// Find tells the first fault of a test. Each search relies on what the ones ahead of it have ruled out.
func Find(t api.Test) Fault {
	fault := findSize(t)
	if fault.Err == api.OK {
		fault = findInstr(t.Threads)
	}
	if fault.Err == api.OK {
		fault = findNest(t.Threads)
	}
	if fault.Err == api.OK {
		fault = findCond(t)
	}
	if fault.Err == api.OK {
		fault = findMany(t.Threads)
	}
	return fault
}

func findSize(t api.Test) Fault {
	wrongSize := Fault{Err: api.ErrSize}
	if len(t.Threads) < 1 || len(t.Threads) > api.MaxThreads {
		return wrongSize
	}
	for _, instrs := range t.Threads {
		if len(instrs) > api.MaxInstrs {
			return wrongSize
		}
	}
	if len(t.Cond) > api.MaxCond {
		return wrongSize
	}
	return Fault{}
}

// placeOf tells thread and place as one number.
func placeOf(thread int, place int) int { return 100*thread + place }

func findInstr(threads [][]api.Instr) Fault {
	for thread, instrs := range threads {
		for place, instr := range instrs {
			if !mayBe(instr) {
				return Fault{Err: api.ErrInstr, Place: placeOf(thread, place)}
			}
		}
	}
	return Fault{}
}

func findNest(threads [][]api.Instr) Fault {
	for thread, instrs := range threads {
		place := unnested(instrs)
		if place >= 0 {
			return Fault{Err: api.ErrNest, Place: placeOf(thread, place)}
		}
	}
	return Fault{}
}

// unnested tells where the sections of a thread are not well nested; -1 if they are.
func unnested(instrs []api.Instr) int {
	entered := false
	for place, instr := range instrs {
		switch instr.Op {
		case api.Enter:
			if entered {
				return place
			}
			entered = true
		case api.Leave:
			if !entered {
				return place
			}
			entered = false
		case api.Sync:
			if entered {
				return place
			}
		}
	}
	if entered {
		return len(instrs)
	}
	return -1
}

func findCond(t api.Test) Fault {
	for i, atom := range t.Cond {
		if !mayBeAsked(atom, len(t.Threads)) {
			return Fault{Err: api.ErrCond, Place: i}
		}
	}
	return Fault{}
}

func findMany(threads [][]api.Instr) Fault {
	list := events.List(threads)
	sections := 0
	syncs := 0
	for _, event := range list {
		switch event.Kind {
		case api.Begin:
			sections++
		case api.Start:
			syncs++
		}
	}
	if sections > api.MaxSections || syncs > api.MaxSyncs {
		return Fault{Err: api.ErrMany}
	}
	if candidates.Count(list) > api.MaxCandidates {
		return Fault{Err: api.ErrMany}
	}
	return Fault{}
}
