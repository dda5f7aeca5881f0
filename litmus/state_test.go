package litmus_test

import (
	"fmt"
	"testing"

	"litmus/api"
	"litmus/litmus"
)

// stated compares State of an allowed execution.
func stated(t *testing.T, what string, x api.Test, c api.Exec, want ...int) {
	t.Helper()
	if l, e := litmus.State(x, c); fmt.Sprint(l) != fmt.Sprint(want) || e != api.OK {
		t.Errorf("P10: %s: State of %v = %v, %d, want %v", what, c, l, e, want)
	}
}

// notStated: State of what has none.
func notStated(t *testing.T, what string, x api.Test, c api.Exec, want api.Errno) {
	t.Helper()
	if l, e := litmus.State(x, c); l != nil || e != want {
		t.Errorf("P10: %s: State of %v = %v, %d, want %d", what, c, l, e, want)
	}
}

func TestStateOfNothing(t *testing.T) {
	none := exec(nil, nil, nil, nil)
	stated(t, "no events", threads(nil), none, 0, 0, 0, 0, 0, 0)
	stated(t, "no events, empty lists", threads(code{}), exec([]int{}, []int{}, []int{}, []int{}), 0, 0, 0, 0, 0, 0)
	stated(t, "four threads without instructions", threads(nil, nil, nil, nil), none, 0, 0, 0, 0, 0, 0, 0, 0, 0, 0, 0, 0, 0, 0, 0)
	stated(t, "fences and marks", threads(code{full, enter, leave}, code{sync}), none, 0, 0, 0, 0, 0, 0, 0, 0, 0)
	stated(t, "a thread without instructions", threads(nil, code{store(0, 1), load(0, 0)}, nil), exec([]int{0}, []int{0}, nil, nil),
		0, 0, 0, 1, 0, 0, 0, 0, 0, 1, 0, 0)
	stated(t, "loads where nothing is written", threads(code{load(0, 0), load(1, 1), load(2, 2)}), exec([]int{-1, -1, -1}, nil, nil, nil), 0, 0, 0, 0, 0, 0)
}

func TestStateOfLoadsAndStores(t *testing.T) {
	stated(t, "each location", threads(code{store(2, 3), store(0, 1), store(1, 2)}), exec(nil, []int{1}, []int{2}, []int{0}), 0, 0, 0, 1, 2, 3)
	each := threads(code{store(0, 1), store(1, 2), store(2, 3)}, code{load(2, 0), load(0, 1), load(1, 2)})
	stated(t, "each register", each, exec([]int{0, 1, 2}, []int{0}, []int{1}, []int{2}), 0, 0, 0, 2, 3, 1, 1, 2, 3)
	stated(t, "each register, one at first", each, exec([]int{0, -1, 2}, []int{0}, []int{1}, []int{2}), 0, 0, 0, 0, 3, 1, 1, 2, 3)
	// the last of the list, not the one with the greatest number
	two := threads(code{store(1, 1)}, code{store(1, 2)}, code{load(0, 1)})
	stated(t, "the greater last", two, exec([]int{0}, nil, []int{0, 1}, nil), 0, 0, 0, 0, 0, 0, 1, 0, 0, 0, 2, 0)
	stated(t, "the lesser last", two, exec([]int{0}, nil, []int{1, 0}, nil), 0, 0, 0, 0, 0, 0, 1, 0, 0, 0, 1, 0)
	stated(t, "the lesser last, at first", two, exec([]int{-1}, nil, []int{1, 0}, nil), 0, 0, 0, 0, 0, 0, 0, 0, 0, 0, 1, 0)
	stated(t, "nought over three", threads(code{store(0, 3), store(0, 0)}, code{load(0, 0)}), exec([]int{0}, []int{0, 1}, nil, nil), 0, 0, 0, 3, 0, 0, 0, 0, 0)
	// modes and fences between change no value
	x := threads(code{acquire(load(0, 0)), full, release(store(1, 2))}, code{acquire(load(1, 1)), full, release(store(0, 3))})
	stated(t, "with modes", x, exec([]int{-1, 1}, []int{3}, []int{1}, nil), 0, 0, 0, 0, 2, 0, 3, 2, 0)
	// the place of a Read in From is not that of its event, nor that of its register
	late := threads(code{enter, store(2, 3), leave}, code{store(0, 2), load(2, 2), store(0, 1), load(1, 0)})
	stated(t, "marks ahead", late, exec([]int{1, 5}, []int{3, 5}, nil, []int{1}), 0, 0, 0, 0, 1, 3, 1, 0, 3)
}

// A register that is read into again holds what was read last, be it less.
func TestStateOfRegistersReadTwice(t *testing.T) {
	x := threads(code{store(0, 2), store(1, 1)}, code{load(1, 0), load(1, 1)})
	stated(t, "two loads", x, exec([]int{0, 1}, []int{0}, []int{1}, nil), 0, 0, 0, 0, 1, 0, 2, 1, 0)
	stated(t, "two loads, the second at first", x, exec([]int{0, -1}, []int{0}, []int{1}, nil), 0, 0, 0, 0, 0, 0, 2, 1, 0)
	stated(t, "two loads, the first at first", x, exec([]int{-1, 1}, []int{0}, []int{1}, nil), 0, 0, 0, 0, 1, 0, 2, 1, 0)
	// 0 W, 1 R, 2 R, 3 W
	stated(t, "a load and a swap", threads(code{store(0, 3), load(2, 0), swap(2, 1, 1)}), exec([]int{0, -1}, []int{0}, []int{3}, nil), 0, 0, 0, 3, 1, 0)
	// 0 W, 1 R, 2 W, 3 R
	stated(t, "a swap and a load", threads(code{store(0, 3), swap(2, 0, 1), load(2, 0)}), exec([]int{0, 2}, []int{0, 2}, nil, nil), 0, 0, 1, 1, 0, 0)
	// 0 R, 1 W, 2 R, 3 W
	stated(t, "two swaps", threads(code{swap(0, 2, 1), swap(0, 2, 2)}), exec([]int{-1, 1}, nil, nil, []int{1, 3}), 1, 0, 0, 0, 0, 2)
	// the same register of another thread is another one
	stated(t, "two threads", threads(code{store(0, 2), load(1, 0)}, code{load(1, 0)}), exec([]int{0, -1}, []int{0}, nil, nil), 0, 2, 0, 0, 0, 0, 2, 0, 0)
}

func TestStateOfCopies(t *testing.T) {
	one := exec(nil, []int{0}, nil, nil)
	stated(t, "of a register that nothing was read into", threads(code{copyTo(0, 1)}), one, 0, 0, 0, 0, 0, 0)
	// 0 W, 1 W, 2 R: the copy stands ahead of the load
	stated(t, "ahead of the load", threads(code{store(0, 2), copyTo(1, 0), load(0, 0)}), exec([]int{0}, []int{0}, []int{1}, nil), 2, 0, 0, 2, 0, 0)
	stated(t, "of a register of another thread", threads(code{store(0, 2), load(1, 0)}, code{copyTo(1, 1)}), exec([]int{0}, []int{0}, []int{2}, nil), 0, 2, 0, 0, 0, 0, 2, 0, 0)
	// 0 W, 1 R, 2 R, 3 W, 4 W, 5 W
	each := threads(code{store(0, 2), load(1, 0), load(2, 1), copyTo(1, 1), copyTo(2, 2), copyTo(2, 1)})
	stated(t, "of two registers", each, exec([]int{0, -1}, []int{0}, []int{3}, []int{4, 5}), 0, 2, 0, 2, 2, 2)
	// 0 W, 1 W, 2 R, 3 W, 4 R, 5 W: what the register holds then, not what it holds in the end
	between := threads(code{store(0, 1), store(1, 3)}, code{load(0, 0), copyTo(2, 0), load(0, 1), copyTo(2, 0)})
	stated(t, "between loads", between, exec([]int{0, 1}, []int{0}, []int{1}, []int{3, 5}), 0, 0, 0, 3, 0, 0, 1, 3, 3)
	first := threads(code{store(0, 1), store(1, 3)}, code{load(0, 0), copyTo(2, 0), load(0, 1)})
	stated(t, "between loads, once", first, exec([]int{0, 1}, []int{0}, []int{1}, []int{3}), 0, 0, 0, 3, 0, 0, 1, 3, 1)
	stated(t, "between loads, once, at first", first, exec([]int{-1, 1}, []int{0}, []int{1}, []int{3}), 0, 0, 0, 3, 0, 0, 1, 3, 0)
	// a copy of what was read at first writes 0 over what was there
	over := threads(code{load(0, 0), copyTo(1, 0)}, code{store(1, 2)})
	stated(t, "nought over two", over, exec([]int{-1}, nil, []int{2, 1}, nil), 0, 0, 0, 0, 0, 0, 0, 0, 0)
	stated(t, "two over nought", over, exec([]int{-1}, nil, []int{1, 2}, nil), 0, 0, 0, 0, 0, 0, 0, 2, 0)
	stated(t, "of mode Release", threads(code{store(0, 3), load(0, 0), release(copyTo(1, 0))}), exec([]int{0}, []int{0}, []int{2}, nil), 3, 0, 0, 3, 3, 0)
}

// What is copied may have been copied before, by any thread.
func TestStateOfCopiesOfCopies(t *testing.T) {
	// 0 R, 1 W; 2 R, 3 W; 4 W: each thread takes from the one behind it
	x := threads(code{load(0, 1), copyTo(2, 0)}, code{load(1, 0), copyTo(1, 1)}, code{store(0, 3)})
	stated(t, "two threads", x, exec([]int{3, 4}, []int{4}, []int{3}, []int{1}), 3, 0, 0, 0, 3, 0, 0, 0, 0, 3, 3, 3)
	stated(t, "two threads, the first at first", x, exec([]int{-1, 4}, []int{4}, []int{3}, []int{1}), 0, 0, 0, 0, 3, 0, 0, 0, 0, 3, 3, 0)
	stated(t, "two threads, the second at first", x, exec([]int{3, -1}, []int{4}, []int{3}, []int{1}), 0, 0, 0, 0, 0, 0, 0, 0, 0, 3, 0, 0)
	// ten events, and the value has come through all of them
	long := threads(code{store(0, 2), load(0, 0), copyTo(1, 0), load(1, 1), copyTo(2, 1), load(2, 2), copyTo(0, 2), load(0, 0), copyTo(1, 0), load(1, 1)})
	stated(t, "through all events", long, exec([]int{0, 2, 4, 6, 8}, []int{0, 6}, []int{2, 8}, []int{4}), 2, 2, 2, 2, 2, 2)
	// 0 W, 1 W, 2 R, 3 W, 4 R, 5 W, 6 R
	turns := threads(code{store(0, 1), store(1, 2)}, code{load(0, 0), copyTo(2, 0)}, code{load(0, 2), copyTo(1, 0), load(1, 1)})
	stated(t, "over a store", turns, exec([]int{0, 3, 5}, []int{0}, []int{1, 5}, []int{3}), 0, 0, 0, 1, 0, 0, 1, 1, 0, 1, 1, 1)
	stated(t, "under a store", turns, exec([]int{0, 3, 1}, []int{0}, []int{5, 1}, []int{3}), 0, 0, 0, 1, 0, 0, 1, 2, 0, 1, 2, 1)
	// 0 W, 1 R, 2 W, 3 W of one thread, back into the location where it came from
	back := threads(code{store(0, 2), load(1, 0), copyTo(0, 1), copyTo(0, 0)})
	stated(t, "back", back, exec([]int{0}, []int{0, 2, 3}, nil, nil), 0, 2, 0, 0, 0, 0)
}

func TestStateOfSwaps(t *testing.T) {
	x := threads(code{swap(0, 0, 1)}, code{swap(0, 0, 2)})
	stated(t, "the first one first", x, exec([]int{-1, 1}, []int{1, 3}, nil, nil), 0, 0, 0, 1, 0, 0, 2, 0, 0)
	stated(t, "the second one first", x, exec([]int{3, -1}, []int{3, 1}, nil, nil), 2, 0, 0, 0, 0, 0, 1, 0, 0)
	stated(t, "a swap of 0", threads(code{store(1, 3), swap(2, 1, 0)}), exec([]int{0}, nil, []int{0, 2}, nil), 0, 0, 3, 0, 0, 0)
	// 0 W, 1 R, 2 W, 3 W: a copy of what a swap has read, not of what it writes
	stated(t, "a copy of what was swapped", threads(code{store(0, 3), swap(1, 0, 2), copyTo(2, 1)}), exec([]int{0}, []int{0, 2}, nil, []int{3}), 0, 3, 0, 2, 0, 3)
	// 0 W, 1 R, 2 W, 3 R, 4 W: what was copied is swapped
	stated(t, "a swap of what was copied", threads(code{store(0, 3), load(0, 0), copyTo(1, 0), swap(2, 1, 1)}), exec([]int{0, 2}, []int{0}, []int{2, 4}, nil), 3, 0, 3, 3, 1, 0)
	// 0 R, 1 W, 2 R: a load of what a swap has written
	stated(t, "a load of what a swap wrote", threads(code{swap(0, 2, 3)}, code{load(1, 2)}), exec([]int{-1, 1}, nil, nil, []int{1}), 0, 0, 0, 0, 3, 0, 0, 0, 3)
}

func TestStateOfExamples(t *testing.T) {
	x := threads(code{store(0, 1), load(0, 1)}, code{store(1, 1), load(0, 0)})
	c, _ := litmus.Candidate(x, 0)
	stated(t, "two stores, two loads", x, c, 0, 0, 0, 0, 0, 0, 1, 1, 0)
	c, _ = litmus.Candidate(x, 2)
	stated(t, "two stores, two loads", x, c, 1, 0, 0, 0, 0, 0, 1, 1, 0)
}

func TestStateOfWhatIsForbidden(t *testing.T) {
	one := threads(code{store(0, 1), load(0, 0)})
	notStated(t, "Incoherent", one, exec([]int{-1}, []int{0}, nil, nil), api.ErrForbidden)
	stated(t, "not Incoherent", one, exec([]int{0}, []int{0}, nil, nil), 1, 0, 0, 1, 0, 0)
	swaps := threads(code{swap(0, 0, 1)}, code{swap(0, 0, 2)})
	notStated(t, "Torn", swaps, exec([]int{-1, -1}, []int{1, 3}, nil, nil), api.ErrForbidden)
	fenced := threads(code{store(0, 1), full, load(0, 1)}, code{store(1, 1), full, load(0, 0)})
	notStated(t, "Circular", fenced, exec([]int{-1, -1}, []int{0}, []int{2}, nil), api.ErrForbidden)
	copies := threads(code{load(0, 0), copyTo(1, 0)}, code{load(0, 1), copyTo(0, 0)})
	notStated(t, "Circular through copies", copies, exec([]int{3, 1}, []int{3}, []int{1}, nil), api.ErrForbidden)
	stated(t, "half a circle", copies, exec([]int{3, -1}, []int{3}, []int{1}, nil), 0, 0, 0, 0, 0, 0, 0, 0, 0)
	notStated(t, "a copy into where it comes from", threads(code{load(0, 0), copyTo(0, 0)}), exec([]int{1}, []int{1}, nil, nil), api.ErrForbidden)
	section := threads(code{enter, load(0, 0), load(1, 1), leave}, code{store(0, 1), sync, store(1, 1)})
	notStated(t, "Spanning", section, exec([]int{-1, 7}, []int{4}, []int{7}, nil), api.ErrForbidden)
	stated(t, "not Spanning", section, exec([]int{4, 7}, []int{4}, []int{7}, nil), 1, 1, 0, 0, 0, 0, 1, 1, 0)
}

// ErrExec comes ahead of ErrForbidden, and the errors of Check ahead of both.
func TestStateTellsErrorsOfJudge(t *testing.T) {
	one := threads(code{store(0, 1), load(0, 0)})
	for _, c := range []api.Exec{{}, exec(nil, []int{0}, nil, nil), exec([]int{-1, -1}, []int{0}, nil, nil), exec([]int{1}, []int{0}, nil, nil), exec([]int{-1}, nil, nil, nil),
		exec([]int{-1}, []int{0}, nil), exec([]int{-1}, []int{0}, nil, nil, nil), exec([]int{-1}, []int{0, 0}, nil, nil), exec([]int{most}, []int{0}, nil, nil), exec([]int{-1}, []int{least}, nil, nil)} {
		notStated(t, "no execution", one, c, api.ErrExec)
	}
	for _, c := range refusedTests() {
		for _, x := range append(wildExecs(), exec(nil, nil, nil, nil), exec([]int{-1}, []int{0}, nil, nil)) {
			notStated(t, "a test that may not be", c.x, x, c.want)
		}
	}
	notStated(t, "seven stores", threads(times(7, store(0, 1))), exec(nil, []int{0, 1, 2, 3, 4, 5, 6}, nil, nil), api.ErrMany)
	notStated(t, "a wrong mode", threads(code{store(0, 1), release(load(0, 0))}), exec([]int{0}, []int{0}, nil, nil), api.ErrInstr)
}

// State has an answer for just those that Judge allows.
func TestStateOfAllCandidates(t *testing.T) {
	for _, x := range samples() {
		size, _ := litmus.Size(x)
		for n := 0; n < size; n++ {
			c, _ := litmus.Candidate(x, n)
			want := api.OK
			if j, _ := litmus.Judge(x, c); j != allowed {
				want = api.ErrForbidden
			}
			l, e := litmus.State(x, c)
			if e != want || (e != api.OK && l != nil) || (e == api.OK && len(l) != 3*len(x.Threads)+3) {
				t.Errorf("P10: %v: State of candidate %d = %v, %d, want %d", x.Threads, n, l, e, want)
			}
		}
	}
}
