package state

import (
	"testing"

	"litmus/api"
	"litmus/events"
)

// Values that come out of themselves are never allowed; yet the search for them must end.
func TestCirclesEnd(t *testing.T) {
	threads := [][]api.Instr{{{Op: api.Load}, {Op: api.Copy, Loc: 1}}, {{Op: api.Load, Loc: 1}, {Op: api.Copy}}}
	list := events.List(threads)
	for _, from := range [][]int{{3, 1}, {0, 2}, {99, -99}, {3}, nil} {
		x := api.Exec{From: from, Order: [][]int{{3}, {1}, {99}}}
		if l := Of(threads, list, x); len(l) != 9 {
			t.Errorf("P1: Of with From %v = %v", from, l)
		}
	}
}

func TestPlaceOf(t *testing.T) {
	for _, c := range []struct{ threads, thread, at, want int }{
		{1, 0, 0, 0}, {1, 0, 2, 2}, {1, -1, 0, 3}, {1, -1, 2, 5}, {4, 3, 2, 11}, {4, -1, 0, 12}, {4, -1, 2, 14}, {4, 1, 1, 4},
	} {
		if got := PlaceOf(c.threads, c.thread, c.at); got != c.want {
			t.Errorf("P10: PlaceOf %v = %d, want %d", c, got, c.want)
		}
	}
}
