package litmus_test

import (
	"fmt"
	"testing"

	"litmus/api"
	"litmus/litmus"
)

// noExec: Judge of what is no execution of a test.
func noExec(t *testing.T, what string, x api.Test, c api.Exec) {
	t.Helper()
	if j, e := litmus.Judge(x, c); j != 0 || e != api.ErrExec {
		t.Errorf("P6: %s: Judge of %v = %d, %d, want ErrExec", what, c, j, e)
	}
}

func TestNoExecutions(t *testing.T) {
	// 0 Wx, 1 Ry, 2 Wy, 3 Rx
	x := threads(code{store(0, 1), load(0, 1)}, code{store(1, 1), load(0, 0)})
	a, b := []int{0}, []int{2}
	judgedExec(t, "P6: all is well", x, exec([]int{-1, -1}, a, b, nil), allowed)
	judgedExec(t, "P6: all is well", x, exec([]int{2, 0}, a, b, []int{}), allowed)
	for _, from := range [][]int{nil, {}, {-1}, {2}, {-1, -1, -1}, {2, 0, 0}, {2, 0, -1, -1}, make([]int, 1000)} {
		noExec(t, "From too short or too long", x, exec(from, a, b, nil))
	}
	for _, from := range [][]int{{0, -1}, {-1, 2}, {0, 2}, {1, -1}, {3, -1}, {-1, 1}, {-1, 3}} {
		noExec(t, "no Write of the location", x, exec(from, a, b, nil))
	}
	for _, n := range extremes {
		if n != -1 && n != 2 {
			noExec(t, "a number that is no source", x, exec([]int{n, -1}, a, b, nil))
		}
		if n != -1 && n != 0 {
			noExec(t, "a number that is no source", x, exec([]int{-1, n}, a, b, nil))
			noExec(t, "a number that is no Write", x, exec([]int{-1, -1}, []int{n}, b, nil))
		}
		noExec(t, "a number too many", x, exec([]int{-1, -1}, []int{0, n}, b, nil))
		noExec(t, "a number too many", x, exec([]int{-1, -1}, []int{n, 0}, b, nil))
		noExec(t, "a number too many", x, exec([]int{-1, -1}, a, b, []int{n}))
	}
	for _, order := range [][][]int{nil, {}, {a}, {a, b}, {a, b, nil, nil}, {nil, a, b}, {a, b, {}, {}, {}}} {
		noExec(t, "lists too few or too many, or shifted", x, api.Exec{From: []int{-1, -1}, Order: order})
	}
	for _, order := range [][][]int{{b, a, nil}, {nil, b, nil}, {a, nil, nil}, {{0, 2}, nil, nil}, {{-1}, b, nil}, {{0, 0}, b, nil}, {a, {2, 2}, nil}, {a, nil, b}, {{1}, b, nil}, {{3}, b, nil}, {{-1, 0}, b, nil}} {
		noExec(t, "lists with other entries", x, api.Exec{From: []int{-1, -1}, Order: order})
	}
	noExec(t, "nothing at all", x, api.Exec{})
}

func TestNoOrders(t *testing.T) {
	// 0 Wx, 1 Wx, 2 Wx, 3 Wz
	x := threads(code{store(0, 1), store(0, 2)}, code{store(0, 3), store(2, 1)})
	judgedExec(t, "P6: all is well", x, exec(nil, []int{2, 0, 1}, nil, []int{3}), allowed)
	for _, l := range [][]int{{0, 0, 0}, {0, 1, 1}, {0, 0, 1}, {2, 1, 2}, {0, 1}, {2}, nil, {0, 1, 2, 0}, {0, 1, 2, 3}, {0, 1, 3}, {-1, 1, 2}, {0, 1, 2, -1}, {most, 1, 2}, {0, 1, least}} {
		noExec(t, "a list", x, exec(nil, l, nil, []int{3}))
	}
	noExec(t, "From without Reads", x, exec([]int{-1}, []int{0, 1, 2}, nil, []int{3}))
	noExec(t, "From without events", threads(nil), exec([]int{-1}, nil, nil, nil))
	noExec(t, "no lists, no events", threads(nil), api.Exec{})
	noExec(t, "two lists, no events", threads(nil), exec(nil, nil, nil))
	noExec(t, "four lists, no events", threads(nil), exec(nil, nil, nil, nil, nil))
	noExec(t, "an event where none is", threads(nil), exec(nil, []int{0}, nil, nil))
	// 0 Begin, 1 End, 2 Start, 3 Finish, all with Loc 0, but no Writes
	marks := threads(code{enter, leave, sync, load(0, 0)})
	for n := 0; n < 6; n++ {
		noExec(t, "from a mark", marks, exec([]int{n}, nil, nil, nil))
		noExec(t, "a mark in a list", marks, exec([]int{-1}, []int{n}, nil, nil))
	}
}

// altered tells executions that are near to one, of which some are executions of the test, too.
func altered(c api.Exec, events int) []api.Exec {
	var l []api.Exec
	for at := range c.From {
		for n := -2; n <= events; n++ {
			from := append([]int{}, c.From...)
			from[at] = n
			l = append(l, api.Exec{From: from, Order: c.Order})
		}
		l = append(l, api.Exec{From: c.From[:at], Order: c.Order}, api.Exec{From: c.From[at+1:], Order: c.Order})
	}
	l = append(l, api.Exec{From: append(append([]int{}, c.From...), -1), Order: c.Order})
	for loc, list := range c.Order {
		with := func(m []int) {
			order := append([][]int{}, c.Order...)
			order[loc] = m
			l = append(l, api.Exec{From: c.From, Order: order})
		}
		for n := -2; n <= events; n++ {
			for at := range list {
				m := append([]int{}, list...)
				m[at] = n
				with(m)
			}
			with(append(append([]int{}, list...), n))
		}
		for at := range list {
			with(append(append([]int{}, list[:at]...), list[at+1:]...))
			m := append([]int{}, list...)
			m[0], m[at] = m[at], m[0]
			with(m)
		}
		for other := range c.Order {
			with(c.Order[other])
		}
		l = append(l, api.Exec{From: c.From, Order: c.Order[:loc]})
	}
	return l
}

// Judge takes what is near to an execution just if it is among all executions.
func TestJudgeTakesExecutionsAlone(t *testing.T) {
	taken, refused := 0, 0
	for _, x := range samples() {
		events := eventsOf(x)
		are := map[string]bool{}
		for _, c := range executions(events) {
			are[fmt.Sprint(c)] = true
		}
		size, _ := litmus.Size(x)
		for n := 0; n < size; n += 1 + size/5 {
			c, _ := litmus.Candidate(x, n)
			for _, d := range altered(c, len(events)) {
				j, e := litmus.Judge(x, d)
				if are[fmt.Sprint(d)] {
					taken++
					if e != api.OK {
						t.Errorf("P6: %v: Judge of %v = %d, %d, but it is an execution", x.Threads, d, j, e)
					}
					continue
				}
				refused++
				if j != 0 || e != api.ErrExec {
					t.Errorf("P6: %v: Judge of %v = %d, %d, want ErrExec", x.Threads, d, j, e)
				}
			}
		}
	}
	if taken < 500 || refused < 500 {
		t.Errorf("only %d executions and %d that are none", taken, refused)
	}
}

// refusedTest: a test that Check refuses, and with which error.
type refusedTest struct {
	x    api.Test
	want api.Errno
}

// refusedTests: one or two tests for each error of Check.
func refusedTests() []refusedTest {
	return []refusedTest{
		{api.Test{}, api.ErrSize},
		{threads(times(13, full)), api.ErrSize},
		{threads(code{wrong}), api.ErrInstr},
		{threads(code{release(load(0, 0))}), api.ErrInstr},
		{threads(code{enter}), api.ErrNest},
		{asking(threads(nil), api.Atom{Val: 4}), api.ErrCond},
		{threads(code{sync, sync, sync}), api.ErrMany},
	}
}

// The error of Check comes ahead of ErrExec, and is told of executions that would be well, too.
func TestJudgeTellsErrorsOfCheck(t *testing.T) {
	empty := exec(nil, nil, nil, nil)
	for _, c := range refusedTests() {
		for _, x := range append(wildExecs(), empty) {
			if j, e := litmus.Judge(c.x, x); j != 0 || e != c.want {
				t.Errorf("P6: %v: Judge of %v = %d, %d, want %d", c.x, x, j, e, c.want)
			}
		}
	}
	seven := threads(times(7, store(0, 1)))
	if j, e := litmus.Judge(seven, exec(nil, []int{0, 1, 2, 3, 4, 5, 6}, nil, nil)); j != 0 || e != api.ErrMany {
		t.Errorf("P6: seven stores: Judge = %d, %d, want ErrMany", j, e)
	}
}
