package litmus_test

import (
	"fmt"

	"litmus/api"
	"litmus/litmus"
)

// Two threads store to one location each and load from the other one, behind a fence: at least one sees what the other one has stored.
func Example() {
	t := api.Test{Threads: [][]api.Instr{
		{{Op: api.Store, Loc: 0, Val: 1}, {Op: api.Fence, Mode: api.Full}, {Op: api.Load, Loc: 1, Reg: 0}},
		{{Op: api.Store, Loc: 1, Val: 1}, {Op: api.Fence, Mode: api.Full}, {Op: api.Load, Loc: 0, Reg: 0}},
	}}
	if e, place := litmus.Check(t); e != api.OK {
		fmt.Println("error", e, "at", place)
		return
	}
	size, _ := litmus.Size(t)
	for n := 0; n < size; n++ {
		x, _ := litmus.Candidate(t, n)
		judgement, _ := litmus.Judge(t, x)
		fmt.Println(n, x.From, x.Order, judgement == api.Allowed)
	}
	// Output:
	// 0 [-1 -1] [[0] [2] []] false
	// 1 [-1 0] [[0] [2] []] true
	// 2 [2 -1] [[0] [2] []] true
	// 3 [2 0] [[0] [2] []] true
}
