package events

import "litmus/api"

// None is the number of no event.
const None = -1

// InstrOf tells the instruction that gave an event.
func InstrOf(threads [][]api.Instr, event api.Event) api.Instr {
	if event.Thread < 0 || event.Thread >= len(threads) {
		return api.Instr{}
	}
	instrs := threads[event.Thread]
	if event.Place < 0 || event.Place >= len(instrs) {
		return api.Instr{}
	}
	return instrs[event.Place]
}

// LastRead tells the last of a thread's Reads into a register among the events below a number; None if there is none. list: the events of the threads.
func LastRead(threads [][]api.Instr, list []api.Event, thread int, reg int, below int) int {
	last := None
	for i, event := range list {
		if i >= below {
			break
		}
		if event.Thread != thread || event.Kind != api.Read {
			continue
		}
		instr := InstrOf(threads, event)
		if instr.Reg == reg {
			last = i
		}
	}
	return last
}

// Sources tells, event by event, from which Write it reads; None if it is no Read, or reads what was held at first. from: the same read by read.
func Sources(list []api.Event, from []int) []int {
	all := make([]int, len(list))
	reads := 0
	for i, event := range list {
		all[i] = None
		if event.Kind == api.Read && reads < len(from) {
			all[i] = from[reads]
			reads++
		}
	}
	return all
}
