package litmus_test

import (
	"fmt"

	"litmus/api"
	"litmus/litmus"
)

// Two threads store to one location each and load from the other one.
func Example() {
	t := api.Test{Threads: [][]api.Instr{
		{{Op: api.Store, Loc: 0, Val: 1}, {Op: api.Load, Loc: 1, Reg: 0}},
		{{Op: api.Store, Loc: 1, Val: 1}, {Op: api.Load, Loc: 0, Reg: 0}},
	}}
	if e, place := litmus.Check(t); e != api.OK {
		fmt.Println("error", e, "at", place)
		return
	}
	size, _ := litmus.Size(t)
	for n := 0; n < size; n++ {
		x, _ := litmus.Candidate(t, n)
		fmt.Println(n, x.From, x.Order)
	}
	// Output:
	// 0 [-1 -1] [[0] [2] []]
	// 1 [-1 0] [[0] [2] []]
	// 2 [2 -1] [[0] [2] []]
	// 3 [2 0] [[0] [2] []]
}
