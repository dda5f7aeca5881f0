package judge

import (
	"litmus/api"
	"litmus/arrows"
)

// meeting: a section and a Sync, of which one must have ended ahead of the other: the four events.
type meeting struct {
	begin, end, start, finish int
}

// meetingsOf tells each section with each Sync.
func meetingsOf(list []api.Event) []meeting {
	begins := ofKind(list, api.Begin)
	ends := ofKind(list, api.End)
	starts := ofKind(list, api.Start)
	finishes := ofKind(list, api.Finish)
	var all []meeting
	// Sections are not laid into each other, nor Syncs: the first Begin belongs to the first End, and so on.
	for i, begin := range begins {
		for j, start := range starts {
			if i < len(ends) && j < len(finishes) {
				all = append(all, meeting{begin: begin, end: ends[i], start: start, finish: finishes[j]})
			}
		}
	}
	return all
}

func ofKind(list []api.Event, kind int) []int {
	var all []int
	for i, event := range list {
		if event.Kind == kind {
			all = append(all, i)
		}
	}
	return all
}

// canBeParted tells whether for each meeting one of its two arrows can be chosen so that they make no circle with those of the set.
func canBeParted(set arrows.Set, meetings []meeting) bool {
	if set.HasCircle() {
		return false
	}
	if len(meetings) == 0 {
		return true
	}
	first := meetings[0]
	rest := meetings[1:]
	sectionFirst := set.With(first.end, first.finish)
	if canBeParted(sectionFirst, rest) {
		return true
	}
	syncFirst := set.With(first.start, first.begin)
	return canBeParted(syncFirst, rest)
}
