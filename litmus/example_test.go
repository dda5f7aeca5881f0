package litmus_test

import (
	"fmt"

	"litmus/api"
	"litmus/litmus"
)

// Two threads store to one location each and load from the other one, behind a fence: at least one sees what the other one has stored.
func Example() {
	t := api.Test{Threads: [][]api.Instr{
		{{Op: api.Store, Loc: 0, Val: 1}, {Op: api.Fence, Mode: api.Full}, {Op: api.Load, Loc: 1, Reg: 0}},
		{{Op: api.Store, Loc: 1, Val: 1}, {Op: api.Fence, Mode: api.Full}, {Op: api.Load, Loc: 0, Reg: 0}},
	}}
	if e, place := litmus.Check(t); e != api.OK {
		fmt.Println("error", e, "at", place)
		return
	}
	size, _ := litmus.Size(t)
	for n := 0; n < size; n++ {
		x, _ := litmus.Candidate(t, n)
		judgement, _ := litmus.Judge(t, x)
		fmt.Println(n, x.From, x.Order, judgement == api.Allowed)
	}
	// Output:
	// 0 [-1 -1] [[0] [2] []] false
	// 1 [-1 0] [[0] [2] []] true
	// 2 [2 -1] [[0] [2] []] true
	// 3 [2 0] [[0] [2] []] true
}

// A message: x is stored, then y; the other thread has seen y, but not x. Without modes that can come out, with them it can't.
func Example_condition() {
	t := api.Test{
		Threads: [][]api.Instr{
			{{Op: api.Store, Loc: 0, Val: 1}, {Op: api.Store, Loc: 1, Val: 1}},
			{{Op: api.Load, Loc: 1, Reg: 0}, {Op: api.Load, Loc: 0, Reg: 1}},
		},
		Cond: []api.Atom{{Thread: 1, At: 0, Val: 1}, {Thread: 1, At: 1, Val: 0}},
	}
	report, _ := litmus.Verdict(t)
	n, x, _ := litmus.Witness(t)
	held, _ := litmus.State(t, x)
	fmt.Println(report.Holds, report.Good, report.Bad, n, x.From, held)

	t.Threads[0][1].Mode = api.Release
	t.Threads[1][0].Mode = api.Acquire
	report, _ = litmus.Verdict(t)
	n, _, _ = litmus.Witness(t)
	fmt.Println(report.Holds, report.Good, report.Bad, n)
	outcomes, _ := litmus.Outcomes(t)
	for _, o := range outcomes {
		fmt.Println(o.State, o.Count)
	}
	// Output:
	// true 1 3 2 [1 -1] [0 0 0 1 0 0 1 1 0]
	// false 0 3 -1
	// [0 0 0 0 0 0 1 1 0] 1
	// [0 0 0 0 1 0 1 1 0] 1
	// [0 0 0 1 1 0 1 1 0] 1
}
