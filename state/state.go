// Package state: what registers and locations hold in the end (P10).
package state

import (
	"litmus/api"
	"litmus/events"
)

// Of tells what is held behind an allowed execution: thread by thread its registers, then the locations. list: the events of the threads.
func Of(threads [][]api.Instr, list []api.Event, x api.Exec) []int {
	from := events.Sources(list, x.From)
	var held []int
	for thread := range threads {
		for reg := 0; reg < api.MaxRegs; reg++ {
			read := events.LastRead(threads, list, thread, reg, len(list))
			value := valueOf(threads, list, from, read)
			held = append(held, value)
		}
	}
	for _, writes := range x.Order {
		write := lastOf(writes)
		value := valueOf(threads, list, from, write)
		held = append(held, value)
	}
	return held
}

// PlaceOf tells where in a state of a test of so many threads a thread's register stands, or, with a thread of -1, a location.
func PlaceOf(threads int, thread int, at int) int {
	if thread < 0 {
		return threads*api.MaxRegs + at
	}
	return thread*api.MaxRegs + at
}

// valueOf tells what a Read has read or a Write has written; of events.None it is what was held at first. It goes back along the Reads and Copies through which the value has come. An event is never met twice on that way: that would be a circle, and the execution not allowed.
func valueOf(threads [][]api.Instr, list []api.Event, from []int, event int) int {
	at := event
	for steps := 0; steps < len(list); steps++ {
		if at < 0 || at >= len(list) || at >= len(from) {
			return 0
		}
		if list[at].Kind == api.Read {
			at = from[at]
			continue
		}
		instr := events.InstrOf(threads, list[at])
		if instr.Op != api.Copy {
			return instr.Val
		}
		at = events.LastRead(threads, list, list[at].Thread, instr.Reg, at)
	}
	return 0
}

func lastOf(writes []int) int {
	if len(writes) == 0 {
		return events.None
	}
	return writes[len(writes)-1]
}
