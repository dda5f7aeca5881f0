package candidates

import "litmus/api"

// Has tells whether x is one of the executions.
func Has(events []api.Event, x api.Exec) bool {
	return hasFrom(events, x.From) && hasOrder(events, x.Order)
}

func hasFrom(events []api.Event, from []int) bool {
	reads := 0
	for _, event := range events {
		if event.Kind != api.Read {
			continue
		}
		if reads >= len(from) {
			return false
		}
		options := sources(events, event.Loc)
		if !isIn(options, from[reads]) {
			return false
		}
		reads++
	}
	return reads == len(from)
}

func hasOrder(events []api.Event, order [][]int) bool {
	if len(order) != api.MaxLocs {
		return false
	}
	for loc, list := range order {
		all := writes(events, loc)
		if !isOrderOf(list, all) {
			return false
		}
	}
	return true
}

// isOrderOf tells whether a list has the entries of another one, in which none stands twice. If it is as long and misses none, it has no room for others.
func isOrderOf(list []int, all []int) bool {
	if len(list) != len(all) {
		return false
	}
	for _, entry := range all {
		if !isIn(list, entry) {
			return false
		}
	}
	return true
}

// isIn tells whether an entry stands in a list.
func isIn(list []int, entry int) bool {
	for _, other := range list {
		if other == entry {
			return true
		}
	}
	return false
}
