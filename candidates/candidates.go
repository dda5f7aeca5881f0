// Package candidates: all executions of a test, counted and numbered (P5).
//
// An execution is made by a row of choices: read by read what it reads from, then location by location, and place by place of its list, which of the writes that are left stands there. How many there are to choose from never hangs on what was chosen before. So the executions in their order are the numbers of a counter with one wheel for each choice, of which the first turns slowest.
package candidates

import "litmus/api"

// atFirst stands for what a location held at first.
const atFirst = -1

// Count tells how many executions there are. Of more than api.MaxCandidates it tells api.MaxCandidates + 1, since their true number may be greater than an int holds.
func Count(events []api.Event) int {
	n := 1
	for _, event := range events {
		if event.Kind == api.Read {
			options := sources(events, event.Loc)
			n = capped(n * len(options))
		}
	}
	for loc := 0; loc < api.MaxLocs; loc++ {
		list := writes(events, loc)
		for left := len(list); left > 0; left-- {
			n = capped(n * left)
		}
	}
	return n
}

// Nth makes the execution with a number. There must be no more than api.MaxCandidates of them.
func Nth(events []api.Event, n int) (api.Exec, api.Errno) {
	size := Count(events)
	if n < 0 || n >= size || size > api.MaxCandidates {
		return api.Exec{}, api.ErrArg
	}
	c := choices{number: n, weight: size}
	from := chooseFrom(&c, events)
	var order [][]int
	for loc := 0; loc < api.MaxLocs; loc++ {
		list := writes(events, loc)
		chosen := chooseOrder(&c, list)
		order = append(order, chosen)
	}
	return api.Exec{From: from, Order: order}, api.OK
}

func capped(n int) int {
	if n > api.MaxCandidates {
		return api.MaxCandidates + 1
	}
	return n
}

// writes tells the events that are Writes of a location.
func writes(events []api.Event, loc int) []int {
	var list []int
	for i, event := range events {
		if event.Kind == api.Write && event.Loc == loc {
			list = append(list, i)
		}
	}
	return list
}

// sources tells all that a Read of a location may read from.
func sources(events []api.Event, loc int) []int {
	list := []int{atFirst}
	for _, write := range writes(events, loc) {
		list = append(list, write)
	}
	return list
}

// choices: the choices that a number (not below 0) stands for. Weight: how many rows of choices are still open.
type choices struct {
	number, weight int
}

// next makes the next choice: a place in a list of so many.
func (c *choices) next(many int) int {
	if many < 1 || c.weight < many {
		// The number has no such choice, and to go on would divide by 0.
		return 0
	}
	c.weight = c.weight / many
	return c.number / c.weight % many
}

func chooseFrom(c *choices, events []api.Event) []int {
	var from []int
	for _, event := range events {
		if event.Kind == api.Read {
			options := sources(events, event.Loc)
			at := c.next(len(options))
			from = append(from, options[at])
		}
	}
	return from
}

func chooseOrder(c *choices, list []int) []int {
	var order []int
	left := list
	for len(left) > 0 {
		at := c.next(len(left))
		order = append(order, left[at])
		left = without(left, at)
	}
	return order
}

// without makes a list that lacks the entry at a place.
func without(list []int, at int) []int {
	var rest []int
	for i, entry := range list {
		if i != at {
			rest = append(rest, entry)
		}
	}
	return rest
}
