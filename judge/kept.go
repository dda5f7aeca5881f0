package judge

import (
	"litmus/api"
	"litmus/arrows"
	"litmus/events"
)

// addKept adds the arrows that the threads keep.
func addKept(set *arrows.Set, threads [][]api.Instr, list []api.Event) {
	for b, later := range list {
		for a, earlier := range list[:b] {
			if earlier.Thread != later.Thread {
				continue
			}
			if isKept(threads, earlier, later) || isCopied(threads, list, a, b) {
				set.Add(a, b)
			}
		}
	}
}

// isKept tells whether a thread keeps an event a ahead of a later one b for any reason but that b copies what a has read.
func isKept(threads [][]api.Instr, a api.Event, b api.Event) bool {
	return isFenced(threads, a, b) || isModed(threads, a, b) || isMarked(a, b) || isSwap(a, b)
}

// isFenced tells whether a Fence that holds for both events stands between their instructions.
func isFenced(threads [][]api.Instr, a api.Event, b api.Event) bool {
	for place := a.Place + 1; place < b.Place; place++ {
		between := events.InstrOf(threads, api.Event{Thread: a.Thread, Place: place})
		if between.Op == api.Fence && holds(between.Mode, a.Kind, b.Kind) {
			return true
		}
	}
	return false
}

// holds tells whether a Fence of some mode keeps events of one kind ahead of those of another.
func holds(mode int, ahead int, behind int) bool {
	switch mode {
	case api.Full:
		return true
	case api.Loads:
		return ahead == api.Read && behind == api.Read
	case api.Stores:
		return ahead == api.Write && behind == api.Write
	}
	return false
}

// isModed tells whether the mode of an instruction keeps the events in order. Of a Swap the mode Acquire concerns the Read alone, Release the Write alone.
func isModed(threads [][]api.Instr, a api.Event, b api.Event) bool {
	first := events.InstrOf(threads, a)
	if a.Kind == api.Read && first.Mode == api.Acquire {
		return true
	}
	second := events.InstrOf(threads, b)
	return b.Kind == api.Write && second.Mode == api.Release
}

// isMarked tells whether one of the events is a mark that keeps the other one on its side. A section keeps in what is in it, but not out what is around it.
func isMarked(a api.Event, b api.Event) bool {
	return a.Kind == api.Begin || b.Kind == api.End || isOfSync(a) || isOfSync(b)
}

func isOfSync(event api.Event) bool {
	return event.Kind == api.Start || event.Kind == api.Finish
}

// isCopied tells whether b is the Write of a Copy, and a the Read whose value it writes.
func isCopied(threads [][]api.Instr, list []api.Event, a int, b int) bool {
	event := list[b]
	instr := events.InstrOf(threads, event)
	if instr.Op != api.Copy {
		return false
	}
	return a == events.LastRead(threads, list, event.Thread, instr.Reg, b)
}
