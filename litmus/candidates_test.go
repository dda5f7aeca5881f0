package litmus_test

import (
	"fmt"
	"sort"
	"testing"

	"litmus/api"
	"litmus/litmus"
)

// arrangements tells all orders of a list, in no order of their own.
func arrangements(l []int) [][]int {
	if len(l) == 0 {
		return [][]int{{}}
	}
	var all [][]int
	for _, rest := range arrangements(l[1:]) {
		for at := 0; at <= len(rest); at++ {
			one := append([]int{}, rest[:at]...)
			one = append(one, l[0])
			all = append(all, append(one, rest[at:]...))
		}
	}
	return all
}

// executions tells all executions of a test, found choice by choice and sorted afterwards: it shares nothing with the program but Events.
func executions(events []api.Event) []api.Exec {
	all := []api.Exec{{}}
	for _, read := range events {
		if read.Kind != api.Read {
			continue
		}
		var next []api.Exec
		for _, x := range all {
			next = append(next, api.Exec{From: append(append([]int{}, x.From...), -1)})
			for i, write := range events {
				if write.Kind == api.Write && write.Loc == read.Loc {
					next = append(next, api.Exec{From: append(append([]int{}, x.From...), i)})
				}
			}
		}
		all = next
	}
	for loc := 0; loc < 3; loc++ {
		var writes []int
		for i, e := range events {
			if e.Kind == api.Write && e.Loc == loc {
				writes = append(writes, i)
			}
		}
		var next []api.Exec
		for _, x := range all {
			for _, order := range arrangements(writes) {
				next = append(next, api.Exec{From: x.From, Order: append(append([][]int{}, x.Order...), order)})
			}
		}
		all = next
	}
	sort.Slice(all, func(i, j int) bool { return ahead(all[i], all[j]) })
	return all
}

// ahead tells whether one execution of a test is sorted ahead of another.
func ahead(a, b api.Exec) bool {
	for i := range a.From {
		if a.From[i] != b.From[i] {
			return a.From[i] < b.From[i]
		}
	}
	for loc := range a.Order {
		for i := range a.Order[loc] {
			if a.Order[loc][i] != b.Order[loc][i] {
				return a.Order[loc][i] < b.Order[loc][i]
			}
		}
	}
	return false
}

// sameCandidates compares all that Size and Candidate tell of a test with its executions.
func sameCandidates(t *testing.T, x api.Test) {
	t.Helper()
	events, _ := litmus.Events(x)
	all := executions(events)
	if n, e := litmus.Size(x); n != len(all) || e != api.OK {
		t.Errorf("P5: %v: Size = %d, %d, want %d", x.Threads, n, e, len(all))
	}
	for n, want := range all {
		c, e := litmus.Candidate(x, n)
		if e != api.OK || len(c.Order) != api.MaxLocs || fmt.Sprint(c) != fmt.Sprint(want) {
			t.Fatalf("P5: %v: candidate %d = %v, %d, want %v", x.Threads, n, c, e, want)
		}
	}
	noCandidate(t, x, len(all))
	noCandidate(t, x, -1)
	for _, n := range extremes {
		if n < 0 || n >= len(all) {
			noCandidate(t, x, n)
		}
	}
}

func noCandidate(t *testing.T, x api.Test, n int) {
	t.Helper()
	if c, e := litmus.Candidate(x, n); e != api.ErrArg || c.From != nil || c.Order != nil {
		t.Errorf("P5: %v: candidate %d = %v, %d, want ErrArg", x.Threads, n, c, e)
	}
}

func TestCandidatesOfSamples(t *testing.T) {
	for _, x := range samples() {
		sameCandidates(t, x)
	}
}

// All tests of two threads with two instructions each, of a small set.
func TestCandidatesOfSmallTests(t *testing.T) {
	set := []api.Instr{store(0, 1), store(2, 1), load(0, 0), load(0, 2), swap(0, 0, 1), swap(0, 2, 1), copyTo(0, 0), full}
	for _, a := range set {
		for _, b := range set {
			for _, c := range set {
				for _, d := range set {
					sameSize(t, threads(code{a, b}, code{c, d}))
				}
			}
		}
	}
}

// sameSize compares the candidates, if there are not too many; else that they are refused.
func sameSize(t *testing.T, x api.Test) {
	t.Helper()
	size := trueSize(x)
	if size <= api.MaxCandidates {
		sameCandidates(t, x)
		return
	}
	if n, e := litmus.Size(x); n != 0 || e != api.ErrMany {
		t.Errorf("P5: %v: Size = %d, %d, but there are %d", x.Threads, n, e, size)
	}
}

// trueSize counts the candidates of a small test.
func trueSize(x api.Test) int {
	var reads, writes [3]int
	for _, l := range x.Threads {
		for _, i := range l {
			switch i.Op {
			case api.Load:
				reads[i.Loc]++
			case api.Store, api.Copy:
				writes[i.Loc]++
			case api.Swap:
				reads[i.Loc]++
				writes[i.Loc]++
			}
		}
	}
	size := 1
	for loc := range reads {
		for i := 0; i < reads[loc]; i++ {
			size *= writes[loc] + 1
		}
		for i := 1; i <= writes[loc]; i++ {
			size *= i
		}
	}
	return size
}

func TestCandidatesByHand(t *testing.T) {
	two := threads(code{store(0, 1), load(0, 1)}, code{store(1, 1), load(0, 0)})
	swaps := threads(code{swap(0, 0, 1)}, code{swap(0, 0, 2)})
	orders := threads(code{store(2, 1), store(2, 2), store(2, 3)}, code{store(0, 1)}, code{store(0, 2)})
	copies := threads(code{load(0, 0), copyTo(1, 0)}, code{load(0, 1), copyTo(0, 0)})
	section := threads(code{enter, load(0, 0), load(1, 1), leave}, code{store(0, 1), sync, store(1, 1)})
	for _, c := range []struct {
		name string
		x    api.Test
		n    int
		want string
	}{
		{"two", two, 0, "{[-1 -1] [[0] [2] []]}"},
		{"two", two, 1, "{[-1 0] [[0] [2] []]}"},
		{"two", two, 2, "{[2 -1] [[0] [2] []]}"},
		{"two", two, 3, "{[2 0] [[0] [2] []]}"},
		{"swaps", swaps, 0, "{[-1 -1] [[1 3] [] []]}"},
		{"swaps", swaps, 1, "{[-1 -1] [[3 1] [] []]}"},
		{"swaps", swaps, 2, "{[-1 1] [[1 3] [] []]}"},
		{"swaps", swaps, 13, "{[3 -1] [[3 1] [] []]}"},
		{"swaps", swaps, 17, "{[3 3] [[3 1] [] []]}"},
		{"orders", orders, 1, "{[] [[3 4] [] [0 2 1]]}"},
		{"orders", orders, 6, "{[] [[4 3] [] [0 1 2]]}"},
		{"orders", orders, 11, "{[] [[4 3] [] [2 1 0]]}"},
		{"copies", copies, 3, "{[3 1] [[3] [1] []]}"},
		{"section", section, 1, "{[-1 7] [[4] [7] []]}"},
		{"nothing", threads(nil), 0, "{[] [[] [] []]}"},
		{"a fence", threads(code{full}), 0, "{[] [[] [] []]}"},
	} {
		if x, e := litmus.Candidate(c.x, c.n); e != api.OK || fmt.Sprint(x) != c.want {
			t.Errorf("P5: %s: candidate %d = %v, %d, want %s", c.name, c.n, x, e, c.want)
		}
	}
	for _, c := range []struct {
		x    api.Test
		want int
	}{{two, 4}, {swaps, 18}, {orders, 12}, {copies, 4}, {section, 4}, {threads(nil), 1}, {threads(times(6, store(0, 1))), 720}} {
		if n, e := litmus.Size(c.x); n != c.want || e != api.OK {
			t.Errorf("P5: %v: Size = %d, %d, want %d", c.x.Threads, n, e, c.want)
		}
		noCandidate(t, c.x, c.want)
	}
}
