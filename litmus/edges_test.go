package litmus_test

import (
	"testing"

	"litmus/api"
	"litmus/litmus"
)

// wildInstrs: instructions with a number at an edge in each field.
func wildInstrs() []api.Instr {
	var l []api.Instr
	for _, n := range extremes {
		l = append(l, api.Instr{Op: n}, api.Instr{Op: n, Loc: n, Reg: n, Val: n, Mode: n})
		for op := api.Store; op <= api.Sync; op++ {
			l = append(l, api.Instr{Op: op, Loc: n}, api.Instr{Op: op, Reg: n}, api.Instr{Op: op, Val: n}, api.Instr{Op: op, Mode: n})
		}
	}
	return l
}

// wildTests: tests of which most may not be.
func wildTests() []api.Test {
	l := samples()
	l = append(l, api.Test{}, threads(), threads(make([]code, 5)...), threads(make([]code, 10000)...), threads(nil, make(code, 10000)))
	l = append(l, asking(threads(nil), make([]api.Atom, 10000)...))
	for _, x := range wildInstrs() {
		l = append(l, threads(code{x}), threads(code{store(0, 1), x, load(0, 0)}, times(12, x)))
	}
	for _, n := range extremes {
		two := threads(code{store(0, 1)}, code{load(0, 0)})
		l = append(l, asking(two, api.Atom{Thread: n}), asking(two, api.Atom{At: n}), asking(two, api.Atom{Val: n}), asking(two, api.Atom{Thread: n, At: n, Val: n}))
	}
	swaps := times(12, swap(0, 0, 1))
	return append(l, threads(swaps, swaps, swaps, swaps), threads(code{enter}), threads(code{leave}), threads(times(12, sync)))
}

// wildExecs: executions of hardly any test.
func wildExecs() []api.Exec {
	l := []api.Exec{{}, {From: []int{}, Order: [][]int{}}, {Order: make([][]int, 3)}, {Order: make([][]int, 1000)}, {From: make([]int, 1000)}}
	l = append(l, exec(nil, make([]int, 1000), make([]int, 1000), make([]int, 1000)))
	for _, n := range extremes {
		l = append(l, exec([]int{n}, nil, nil, nil), exec([]int{-1, n}, []int{n}, []int{0, n}, nil))
		l = append(l, exec([]int{n, n}, []int{n}, []int{n}, []int{n}), exec([]int{-1, n}, []int{0}, []int{2}, nil), exec([]int{-1, -1}, []int{n}, []int{2}, nil))
	}
	return l
}

// callAll makes every call; a call that panics fails the test.
func callAll(x api.Test, n int, exec api.Exec) {
	litmus.Check(x)
	litmus.Events(x)
	litmus.Size(x)
	litmus.Candidate(x, n)
	litmus.Judge(x, exec)
	litmus.State(x, exec)
	litmus.Outcomes(x)
	litmus.Verdict(x)
	litmus.Witness(x)
}

func TestNoCallPanics(t *testing.T) {
	execs := wildExecs()
	for i, x := range wildTests() {
		callAll(x, extremes[i%len(extremes)], execs[i%len(execs)])
	}
	for _, x := range samples() {
		for _, n := range extremes {
			litmus.Candidate(x, n)
		}
		for _, exec := range execs {
			litmus.Judge(x, exec)
			litmus.State(x, exec)
		}
	}
}

func TestErrorsAnswerNothingElse(t *testing.T) {
	refused := 0
	for _, x := range wildTests() {
		want, place := litmus.Check(x)
		if want == api.OK {
			if place != 0 {
				t.Errorf("P3: %v: Check = OK, %d", x, place)
			}
			continue
		}
		refused++
		if l, e := litmus.Events(x); e != want || l != nil {
			t.Errorf("P1, P4: %v: Events = %v, %d, want %d", x, l, e, want)
		}
		if n, e := litmus.Size(x); e != want || n != 0 {
			t.Errorf("P1, P5: %v: Size = %d, %d, want %d", x, n, e, want)
		}
		for _, n := range extremes {
			if c, e := litmus.Candidate(x, n); e != want || c.From != nil || c.Order != nil {
				t.Errorf("P1, P5: %v: Candidate(%d) = %v, %d, want %d", x, n, c, e, want)
			}
		}
		for _, c := range wildExecs() {
			if j, e := litmus.Judge(x, c); e != want || j != 0 {
				t.Errorf("P1, P6: %v: Judge of %v = %d, %d, want %d", x, c, j, e, want)
			}
			if l, e := litmus.State(x, c); e != want || l != nil {
				t.Errorf("P1, P10: %v: State of %v = %v, %d, want %d", x, c, l, e, want)
			}
		}
		if l, e := litmus.Outcomes(x); e != want || l != nil {
			t.Errorf("P1, P11: %v: Outcomes = %v, %d, want %d", x, l, e, want)
		}
		if r, e := litmus.Verdict(x); e != want || r != (api.Report{}) {
			t.Errorf("P1, P12: %v: Verdict = %v, %d, want %d", x, r, e, want)
		}
		if n, c, e := litmus.Witness(x); e != want || n != 0 || c.From != nil || c.Order != nil {
			t.Errorf("P1, P12: %v: Witness = %d, %v, %d, want %d", x, n, c, e, want)
		}
	}
	if refused < 500 {
		t.Errorf("only %d tests were refused", refused)
	}
}
