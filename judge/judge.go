// Package judge: whether an execution is allowed, and if not, why not (P6 to P9, P13).
package judge

import (
	"litmus/api"
	"litmus/events"
)

// Of judges an execution. list: the events of the threads; x must be an execution of them.
func Of(threads [][]api.Instr, list []api.Event, x api.Exec) int {
	from := events.Sources(list, x.From)
	rank := ranks(list, from, x.Order)
	if isIncoherent(list, from, rank) {
		return api.Incoherent
	}
	if isTorn(list, rank) {
		return api.Torn
	}
	set := executed(list, from, rank)
	addKept(&set, threads, list)
	if set.HasCircle() {
		return api.Circular
	}
	meetings := meetingsOf(list)
	if !canBeParted(set, meetings) {
		return api.Spanning
	}
	return api.Allowed
}

func isIncoherent(list []api.Event, from []int, rank []int) bool {
	set := executed(list, from, rank)
	for b, later := range list {
		for a, earlier := range list[:b] {
			if earlier.Thread == later.Thread && isSameLoc(earlier, later) {
				set.Add(a, b)
			}
		}
	}
	return set.HasCircle()
}

// isTorn tells whether the Write of a Swap stands anywhere but next behind what its Read reads from.
func isTorn(list []api.Event, rank []int) bool {
	for b, write := range list {
		for a, read := range list[:b] {
			if isSwap(read, write) && rank[b] != rank[a]+1 {
				return true
			}
		}
	}
	return false
}

// isAccess tells whether an event is a Read or a Write.
func isAccess(event api.Event) bool {
	return event.Kind == api.Read || event.Kind == api.Write
}

// isSameLoc tells whether two events are Reads or Writes of one location.
func isSameLoc(a api.Event, b api.Event) bool {
	return isAccess(a) && isAccess(b) && a.Loc == b.Loc
}

// isSwap tells whether two events are the Read and the Write of one Swap.
func isSwap(a api.Event, b api.Event) bool {
	return a.Thread == b.Thread && a.Place == b.Place && a.Kind == api.Read && b.Kind == api.Write
}
