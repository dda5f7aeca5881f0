package events

import (
	"fmt"
	"testing"

	"litmus/api"
)

func TestLastRead(t *testing.T) {
	threads := [][]api.Instr{
		{{Op: api.Load, Reg: 1}, {Op: api.Store}, {Op: api.Load, Reg: 1}, {Op: api.Swap, Reg: 2}, {Op: api.Copy, Reg: 1}},
		{{Op: api.Enter}, {Op: api.Copy, Reg: 1}, {Op: api.Leave}, {Op: api.Load, Reg: 1}},
		nil,
	}
	// 0 R, 1 W, 2 R, 3 R, 4 W, 5 W; 6 Begin, 7 W, 8 End, 9 R
	list := List(threads)
	for _, c := range []struct{ thread, reg, below, want int }{
		{0, 1, 10, 2}, {0, 1, 3, 2}, {0, 1, 2, 0}, {0, 1, 1, 0}, {0, 1, 0, None}, {0, 1, -1, None},
		{0, 2, 10, 3}, {0, 2, 4, 3}, {0, 2, 3, None}, {0, 0, 10, None},
		{1, 1, 7, None}, {1, 1, 9, None}, {1, 1, 10, 9}, {1, 1, 1 << 62, 9}, {1, 0, 10, None}, {1, 2, 10, None},
		{2, 0, 10, None}, {2, 1, 10, None}, {3, 1, 10, None}, {-1, 0, 10, None},
	} {
		if got := LastRead(threads, list, c.thread, c.reg, c.below); got != c.want {
			t.Errorf("LastRead of thread %d, register %d, below %d = %d, want %d", c.thread, c.reg, c.below, got, c.want)
		}
	}
}

func TestInstrOf(t *testing.T) {
	threads := [][]api.Instr{{{Op: api.Load}}, {{Op: api.Store}, {Op: api.Sync}}}
	for _, c := range []struct{ thread, place, want int }{
		{0, 0, api.Load}, {1, 0, api.Store}, {1, 1, api.Sync},
		{0, 1, 0}, {1, 2, 0}, {2, 0, 0}, {-1, 0, 0}, {0, -1, 0}, {1 << 62, 1 << 62, 0},
	} {
		if got := InstrOf(threads, api.Event{Thread: c.thread, Place: c.place}); got.Op != c.want {
			t.Errorf("InstrOf thread %d, place %d = %v, want Op %d", c.thread, c.place, got, c.want)
		}
	}
}

func TestSources(t *testing.T) {
	// 0 W, 1 R, 2 R, 3 W; 4 Start, 5 Finish, 6 R
	list := List([][]api.Instr{{{Op: api.Store}, {Op: api.Load}, {Op: api.Swap}}, {{Op: api.Sync}, {Op: api.Load}}})
	for _, c := range []struct {
		from []int
		want string
	}{
		{[]int{0, 3, None}, "[-1 0 3 -1 -1 -1 -1]"},
		{[]int{None, None, 0}, "[-1 -1 -1 -1 -1 -1 0]"},
		{[]int{0, 3}, "[-1 0 3 -1 -1 -1 -1]"},
		{[]int{0, 3, 0, 3}, "[-1 0 3 -1 -1 -1 0]"},
		{nil, "[-1 -1 -1 -1 -1 -1 -1]"},
	} {
		if got := fmt.Sprint(Sources(list, c.from)); got != c.want {
			t.Errorf("Sources of %v = %s, want %s", c.from, got, c.want)
		}
	}
}
