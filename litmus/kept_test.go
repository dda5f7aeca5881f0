package litmus_test

import (
	"testing"

	"litmus/api"
)

// pair: two accesses a and b of one thread, and another thread that keeps its own two in order. If b is seen ahead of a, the Reads of the locations that are seen read what is stored there, and the others what was held at first. That candidate (early) is Circular just if the first thread keeps a ahead of b.
type pair struct {
	name  string
	a, b  api.Instr
	other code
	seen  []int
	early int
}

func pairs() []pair {
	return []pair{
		{"WW", store(0, 1), store(1, 1), code{load(0, 1), full, load(1, 0)}, []int{1}, 2},
		{"RR", load(0, 1), load(1, 0), code{store(0, 1), full, store(1, 1)}, []int{1}, 2},
		{"WR", store(0, 1), load(0, 1), code{store(1, 1), full, load(0, 0)}, nil, 0},
		{"RW", load(0, 0), store(1, 1), code{load(0, 1), full, store(0, 1)}, []int{0, 1}, 3},
	}
}

// keeps compares Judge of all candidates, where own is a and b of the pair with something that keeps them in order or not.
func keeps(t *testing.T, what string, p pair, own code, kept bool) {
	t.Helper()
	want := [4]int{}
	if kept {
		want[p.early] = circular
	}
	judged(t, "P8: "+p.name+": "+what, threads(own, p.other), want[:]...)
}

func TestFencesKeep(t *testing.T) {
	loads, stores := fence(api.Loads), fence(api.Stores)
	for _, p := range pairs() {
		keeps(t, "nothing", p, code{p.a, p.b}, false)
		keeps(t, "Full", p, code{p.a, full, p.b}, true)
		keeps(t, "Loads", p, code{p.a, loads, p.b}, p.name == "RR")
		keeps(t, "Stores", p, code{p.a, stores, p.b}, p.name == "WW")
		keeps(t, "Loads and Stores", p, code{p.a, loads, stores, p.b}, p.name == "RR" || p.name == "WW")
		keeps(t, "fences around", p, code{full, loads, stores, p.a, p.b, full, loads, stores}, false)
		keeps(t, "Full among loads of a third location", p, code{p.a, load(2, 2), full, load(2, 2), p.b}, true)
		keeps(t, "Loads among loads of a third location", p, code{p.a, load(2, 2), loads, load(2, 2), p.b}, p.name == "RR")
	}
}

func TestModesKeep(t *testing.T) {
	for _, p := range pairs() {
		if p.a.Op == api.Load {
			keeps(t, "Acquire first", p, code{acquire(p.a), p.b}, true)
		} else {
			keeps(t, "Release first", p, code{release(p.a), p.b}, false)
		}
		if p.b.Op == api.Load {
			keeps(t, "Acquire second", p, code{p.a, acquire(p.b)}, false)
		} else {
			keeps(t, "Release second", p, code{p.a, release(p.b)}, true)
			keeps(t, "a Copy", p, code{p.a, copyTo(p.b.Loc, 2)}, false)
			keeps(t, "a Copy, Release", p, code{p.a, release(copyTo(p.b.Loc, 2))}, true)
		}
		keeps(t, "Acquire ahead", p, code{acquire(load(2, 2)), p.a, p.b}, false)
		keeps(t, "Acquire between", p, code{p.a, acquire(load(2, 2)), p.b}, false)
		keeps(t, "Release between", p, code{p.a, release(store(2, 1)), p.b}, false)
		keeps(t, "Release behind", p, code{p.a, p.b, release(store(2, 1))}, false)
	}
}

// seeing makes the execution of a test with at most one Write a location, in which each Read of one of the locations reads that Write.
func seeing(x api.Test, locs ...int) api.Exec {
	writes := [3]int{-1, -1, -1}
	events := eventsOf(x)
	c := api.Exec{Order: make([][]int, 3)}
	for i, e := range events {
		if e.Kind == api.Write {
			c.Order[e.Loc] = append(c.Order[e.Loc], i)
		}
	}
	for _, loc := range locs {
		writes[loc] = c.Order[loc][0]
	}
	for _, e := range events {
		if e.Kind == api.Read {
			c.From = append(c.From, writes[e.Loc])
		}
	}
	return c
}

// What a thread writes with Release and reads itself with Acquire keeps what is around it in order: the arrow to the Read is there within a thread, too.
func TestReadingOnesOwnWrite(t *testing.T) {
	for _, p := range pairs() {
		x := threads(code{p.a, release(store(2, 1)), acquire(load(2, 2)), p.b}, p.other)
		judgedExec(t, "P8: "+p.name+": Release and Acquire", x, seeing(x, append(p.seen, 2)...), circular)
		x = threads(code{p.a, store(2, 1), acquire(load(2, 2)), p.b}, p.other)
		judgedExec(t, "P8: "+p.name+": Acquire alone", x, seeing(x, append(p.seen, 2)...), allowed)
		x = threads(code{p.a, release(store(2, 1)), load(2, 2), p.b}, p.other)
		judgedExec(t, "P8: "+p.name+": Release alone", x, seeing(x, append(p.seen, 2)...), allowed)
	}
}

// Of a Swap the mode Acquire holds for the Read, the mode Release for the Write.
func TestModesOfSwaps(t *testing.T) {
	for _, mode := range []int{api.Plain, api.Acquire, api.Release} {
		first, second := moded(swap(0, 0, 1), mode), moded(swap(1, 1, 1), mode)
		ifMode := func(m int) int {
			if mode == m {
				return circular
			}
			return allowed
		}
		// 0 R, 1 W of x, 2 Wy; 3 Ry, 4 Wx
		x := threads(code{first, store(1, 1)}, code{load(0, 1), full, store(0, 2)})
		judgedExec(t, "P8: the Read of a Swap ahead of a Write", x, exec([]int{4, 2}, []int{4, 1}, []int{2}, nil), ifMode(api.Acquire))
		// 0 R, 1 W of x, 2 Wy; 3 Ry, 4 Rx
		x = threads(code{first, store(1, 1)}, code{load(0, 1), full, load(1, 0)})
		judgedExec(t, "P8: the Write of a Swap ahead of a Write", x, exec([]int{-1, 2, -1}, []int{1}, []int{2}, nil), allowed)
		// 0 Wx, 1 R, 2 W of y; 3 Ry, 4 Rx
		x = threads(code{store(0, 1), second}, code{load(0, 1), full, load(1, 0)})
		judgedExec(t, "P8: a Write ahead of the Write of a Swap", x, exec([]int{-1, 2, -1}, []int{0}, []int{2}, nil), ifMode(api.Release))
		// 0 Rx, 1 R, 2 W of y; 3 Ry, 4 Wx
		x = threads(code{load(0, 0), second}, code{load(0, 1), full, store(0, 1)})
		judgedExec(t, "P8: a Read ahead of the Write of a Swap", x, exec([]int{4, -1, 2}, []int{4}, []int{2}, nil), ifMode(api.Release))
		// 0 Rx, 1 R, 2 W of y, 3 Wz; 4 Rz, 5 Wx: by way of the Copy the Read of the Swap is seen alone
		x = threads(code{load(0, 0), second, copyTo(2, 1)}, code{load(0, 2), full, store(0, 1)})
		judgedExec(t, "P8: a Read ahead of the Read of a Swap", x, exec([]int{5, -1, 3}, []int{5}, []int{2}, []int{3}), allowed)
		x = threads(code{acquire(load(0, 0)), second, copyTo(2, 1)}, code{load(0, 2), full, store(0, 1)})
		judgedExec(t, "P8: an Acquire ahead of the Read of a Swap", x, exec([]int{5, -1, 3}, []int{5}, []int{2}, []int{3}), circular)
		x = threads(code{load(0, 0), fence(api.Loads), second, copyTo(2, 1)}, code{load(0, 2), full, store(0, 1)})
		judgedExec(t, "P8: Loads ahead of the Read of a Swap", x, exec([]int{5, -1, 3}, []int{5}, []int{2}, []int{3}), circular)
	}
}

// What a Swap reads goes ahead of what it writes.
func TestSwapKeeps(t *testing.T) {
	// 0 Wy, 1 Wx; 2 R, 3 W of x; 4 Rx, 5 Ry
	x := threads(code{store(1, 1), release(store(0, 1))}, code{swap(0, 0, 2)}, code{acquire(load(0, 0)), load(1, 1)})
	judgedExec(t, "P8: by way of a Swap", x, exec([]int{1, 3, -1}, []int{1, 3}, []int{0}, nil), circular)
	judgedExec(t, "P8: by way of a Swap, and seen", x, exec([]int{1, 3, 0}, []int{1, 3}, []int{0}, nil), allowed)
	judgedExec(t, "P8: the Swap reads from nothing", x, exec([]int{-1, 3, -1}, []int{3, 1}, []int{0}, nil), allowed)
	// 0 R, 1 W of x, 2 Ry; 3 R, 4 W of y, 5 Rx
	early := exec([]int{-1, -1, -1, -1}, []int{1}, []int{4}, nil)
	judgedExec(t, "P8: swaps with fences", threads(code{swap(0, 0, 1), full, load(1, 1)}, code{swap(0, 1, 1), full, load(1, 0)}), early, circular)
	judgedExec(t, "P8: swaps without fences", threads(code{swap(0, 0, 1), load(1, 1)}, code{swap(0, 1, 1), load(1, 0)}), early, allowed)
}

// The Write of a Copy is kept behind the Read whose value it writes, and behind no other one.
func TestCopiesKeep(t *testing.T) {
	p := pairs()[3]
	keeps(t, "a Copy of what was read", p, code{load(0, 0), copyTo(1, 0)}, true)
	keeps(t, "a Copy of another register", p, code{load(0, 0), copyTo(1, 1)}, false)
	keeps(t, "a Copy of another register that was loaded", p, code{load(1, 2), load(0, 0), copyTo(1, 1)}, false)
	keeps(t, "loaded anew", p, code{load(0, 0), load(0, 2), copyTo(1, 0)}, false)
	keeps(t, "loaded anew, the later one", p, code{load(2, 2), load(2, 0), copyTo(1, 2)}, true)
	keeps(t, "other registers loaded anew", p, code{load(2, 0), load(1, 2), load(0, 2), copyTo(1, 2)}, true)
	keeps(t, "loaded anew behind the Copy", p, code{load(0, 0), copyTo(1, 0), load(0, 2)}, true)
	keeps(t, "a Store of the same number", p, code{load(0, 0), store(1, 0)}, false)
	keeps(t, "a Store between", p, code{load(0, 0), store(2, 1), copyTo(1, 0)}, true)
	keeps(t, "another Copy between", p, code{load(1, 0), copyTo(2, 1), copyTo(1, 1)}, true)
	keeps(t, "marks and a fence between", p, code{load(0, 0), enter, fence(api.Stores), leave, copyTo(1, 0)}, true)
	judged(t, "P8: a Copy with no Read ahead", threads(code{load(0, 0), full, store(1, 1)}, code{copyTo(0, 0), load(0, 1)}), allowed, allowed, allowed, allowed)
	judged(t, "P8: a Copy alone", threads(code{copyTo(0, 0)}), allowed)
	judged(t, "P8: Copies in both threads", threads(code{load(0, 0), copyTo(1, 0)}, code{load(1, 1), copyTo(0, 1)}), allowed, allowed, allowed, circular)
	judged(t, "P8: Copies of what the other thread has loaded", threads(code{load(0, 0), copyTo(1, 1)}, code{load(1, 1), copyTo(0, 0)}), allowed, allowed, allowed, allowed)
	x := threads(code{load(0, 0), copyTo(2, 0), load(1, 2), copyTo(1, 1)}, code{load(0, 1), copyTo(0, 0)})
	judgedExec(t, "P8: by way of a third location", x, seeing(x, 0, 1, 2), circular)
	x = threads(code{load(0, 0), swap(0, 2, 1), copyTo(1, 0)}, code{load(0, 1), full, store(0, 1)})
	judgedExec(t, "P8: a Swap into the register", x, seeing(x, 0, 1), allowed)
	x = threads(code{load(0, 0), swap(1, 2, 1), copyTo(1, 0)}, code{load(0, 1), full, store(0, 1)})
	judgedExec(t, "P8: a Swap into another register", x, seeing(x, 0, 1), circular)
	// 0 R, 1 W of x, 2 Wy; 3 Ry, 4 Wx
	swapped := exec([]int{4, 2}, []int{4, 1}, []int{2}, nil)
	judgedExec(t, "P8: a Copy of what a Swap has read", threads(code{swap(1, 0, 1), copyTo(1, 1)}, code{load(0, 1), full, store(0, 2)}), swapped, circular)
	judgedExec(t, "P8: a Copy of what a Swap has not read", threads(code{swap(1, 0, 1), copyTo(1, 0)}, code{load(0, 1), full, store(0, 2)}), swapped, allowed)
}

func TestMarksKeep(t *testing.T) {
	for _, p := range pairs() {
		keeps(t, "Sync", p, code{p.a, sync, p.b}, true)
		keeps(t, "Sync ahead", p, code{sync, p.a, p.b}, false)
		keeps(t, "Sync behind", p, code{p.a, p.b, sync}, false)
		keeps(t, "a section", p, code{enter, p.a, p.b, leave}, false)
		keeps(t, "a section between", p, code{p.a, enter, leave, p.b}, false)
		keeps(t, "Enter between", p, code{p.a, enter, p.b, leave}, false)
		keeps(t, "Leave between", p, code{enter, p.a, leave, p.b}, false)
		keeps(t, "two sections", p, code{enter, p.a, leave, enter, p.b, leave}, false)
		keeps(t, "a section and Full", p, code{enter, p.a, full, p.b, leave}, true)
	}
}

// Each kind of arrow of an execution may close a circle, and one may go through all threads.
func TestCircles(t *testing.T) {
	stores := fence(api.Stores)
	judged(t, "P8: from Write to Write", threads(code{store(0, 1), stores, store(1, 2)}, code{store(1, 1), stores, store(0, 2)}), allowed, allowed, circular, allowed)
	judged(t, "P8: from Write to Write, one fence", threads(code{store(0, 1), stores, store(1, 2)}, code{store(1, 1), store(0, 2)}), allowed, allowed, allowed, allowed)
	// 0 Wx; 1 Rx, 2 Wy; 3 Ry, 4 Rx
	x := threads(code{store(0, 1)}, code{load(0, 0), copyTo(1, 0)}, code{load(0, 1), fence(api.Loads), load(1, 0)})
	judgedExec(t, "P8: three threads", x, exec([]int{0, 2, -1}, []int{0}, []int{2}, nil), circular)
	judgedExec(t, "P8: three threads, seen", x, exec([]int{0, 2, 0}, []int{0}, []int{2}, nil), allowed)
	// 0 Wx; 1 Wy; 2 Rx, 3 Ry; 4 Ry, 5 Rx
	early := exec([]int{0, -1, 1, -1}, []int{0}, []int{1}, nil)
	judgedExec(t, "P8: four threads", threads(code{store(0, 1)}, code{store(1, 1)}, code{acquire(load(0, 0)), load(1, 1)}, code{acquire(load(0, 1)), load(1, 0)}), early, circular)
	judgedExec(t, "P8: four threads, one Acquire", threads(code{store(0, 1)}, code{store(1, 1)}, code{acquire(load(0, 0)), load(1, 1)}, code{load(0, 1), load(1, 0)}), early, allowed)
	// 0 Wy, 1 Wx, 2 Wx; 3 Rx, 4 Ry
	x = threads(code{store(1, 1), release(store(0, 1)), store(0, 2)}, code{acquire(load(0, 0)), load(1, 1)})
	judgedExec(t, "P8: behind a Release in the list", x, exec([]int{2, -1}, []int{1, 2}, []int{0}, nil), circular)
	// 0 Rx, 1 Rx, 2 Wy; 3 Ry, 4 Wx
	x = threads(code{load(0, 0), load(1, 0), copyTo(1, 1)}, code{load(0, 1), full, store(0, 1)})
	judgedExec(t, "P8: two Reads of one location", x, exec([]int{4, -1, 2}, []int{4}, []int{2}, nil), incoherent)
	judgedExec(t, "P8: two Reads of one location, the first one early", x, exec([]int{-1, 4, 2}, []int{4}, []int{2}, nil), circular)
	x = threads(code{load(0, 0), load(1, 0), copyTo(1, 0)}, code{load(0, 1), full, store(0, 1)})
	judgedExec(t, "P8: two Reads of one location, the first one copied", x, exec([]int{-1, 4, 2}, []int{4}, []int{2}, nil), allowed)
}
