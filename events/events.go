// Package events: what the instructions of a test do to memory (P4).
package events

import "litmus/api"

// List tells the events of the threads of a test, by their numbers.
func List(threads [][]api.Instr) []api.Event {
	var list []api.Event
	for thread, instrs := range threads {
		for place, instr := range instrs {
			for _, kind := range kinds(instr.Op) {
				// An instruction without a location has Loc 0 in every test that may be, and so do its events.
				list = append(list, api.Event{Thread: thread, Place: place, Kind: kind, Loc: instr.Loc})
			}
		}
	}
	return list
}

// kinds tells the kinds of the events that an operation gives, in their order.
func kinds(op int) []int {
	switch op {
	case api.Store, api.Copy:
		return []int{api.Write}
	case api.Load:
		return []int{api.Read}
	case api.Swap:
		return []int{api.Read, api.Write}
	case api.Enter:
		return []int{api.Begin}
	case api.Leave:
		return []int{api.End}
	case api.Sync:
		return []int{api.Start, api.Finish}
	}
	return nil
}
