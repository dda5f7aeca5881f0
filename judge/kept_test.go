package judge

import (
	"fmt"
	"testing"

	"litmus/api"
	"litmus/events"
)

// arrowsKept tells all pairs of events of one thread that are kept in order.
func arrowsKept(thread ...api.Instr) string {
	threads := [][]api.Instr{thread}
	list := events.List(threads)
	var l [][2]int
	for a := range list {
		for b := a + 1; b < len(list); b++ {
			if isKept(threads, list[a], list[b]) || isCopied(threads, list, a, b) {
				l = append(l, [2]int{a, b})
			}
		}
	}
	return fmt.Sprint(l)
}

// Some arrows of P8 lie beside others, so that no answer of a call shows whether they are there: they are looked at here one by one.
func TestArrowsKept(t *testing.T) {
	load, store := api.Instr{Op: api.Load}, api.Instr{Op: api.Store}
	enter, leave, sync := api.Instr{Op: api.Enter}, api.Instr{Op: api.Leave}, api.Instr{Op: api.Sync}
	for _, c := range []struct {
		what string
		got  string
		want string
	}{
		{"nothing", arrowsKept(), "[]"},
		{"no fence", arrowsKept(load, store, load, store), "[]"},
		{"a Swap", arrowsKept(load, api.Instr{Op: api.Swap}, load), "[[1 2]]"},
		{"a Swap, Acquire", arrowsKept(load, api.Instr{Op: api.Swap, Mode: api.Acquire}, load), "[[1 2] [1 3]]"},
		{"a Swap, Release", arrowsKept(load, api.Instr{Op: api.Swap, Mode: api.Release}, load), "[[0 2] [1 2]]"},
		{"a Copy", arrowsKept(load, load, api.Instr{Op: api.Copy}, load), "[[1 2]]"},
		{"a section", arrowsKept(load, enter, store, leave, load), "[[0 3] [1 2] [1 3] [1 4] [2 3]]"},
		{"a Sync", arrowsKept(load, sync, store), "[[0 1] [0 2] [1 2] [1 3] [2 3]]"},
		{"two Syncs", arrowsKept(sync, sync), "[[0 1] [0 2] [0 3] [1 2] [1 3] [2 3]]"},
		{"a section ahead of a Sync", arrowsKept(enter, leave, sync), "[[0 1] [0 2] [0 3] [1 2] [1 3] [2 3]]"},
		{"two sections", arrowsKept(enter, leave, enter, leave), "[[0 1] [0 2] [0 3] [1 3] [2 3]]"},
		{"Full", arrowsKept(enter, leave, api.Instr{Op: api.Fence}, enter, load, leave), "[[0 1] [0 2] [0 3] [0 4] [1 2] [1 3] [1 4] [2 3] [2 4] [3 4]]"},
		{"Loads", arrowsKept(store, leave, load, api.Instr{Op: api.Fence, Mode: api.Loads}, load, store, enter), "[[0 1] [2 3]]"},
		{"Stores", arrowsKept(load, store, leave, api.Instr{Op: api.Fence, Mode: api.Stores}, load, store, enter), "[[0 2] [1 2] [1 4]]"},
	} {
		if c.got != c.want {
			t.Errorf("P8: %s: arrows %s, want %s", c.what, c.got, c.want)
		}
	}
}
