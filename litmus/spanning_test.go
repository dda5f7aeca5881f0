package litmus_test

import (
	"testing"

	"litmus/api"
)

// Where there is no Sync, or no section, nothing is Spanning.
func TestNeverSpanning(t *testing.T) {
	reads := code{load(0, 0), load(1, 1)}
	section := code{enter, load(0, 0), load(1, 1), leave}
	judged(t, "P9: no Sync", threads(section, code{store(0, 1), store(1, 1)}), allowed, allowed, allowed, allowed)
	judged(t, "P9: no section", threads(reads, code{store(0, 1), sync, store(1, 1)}), allowed, allowed, allowed, allowed)
	judged(t, "P9: two Syncs, no section", threads(reads, code{sync, store(0, 1), sync, store(1, 1)}), allowed, allowed, allowed, allowed)
	judged(t, "P9: three sections, no Sync", threads(join(section, code{enter, leave, enter, leave}), code{store(0, 1), full, store(1, 1)}), allowed, allowed, allowed, allowed)
	judged(t, "P9: marks alone", threads(code{enter, leave, sync, enter, leave}, code{sync, enter, leave}), allowed)
}

// A thread with a section and one that stores to x, syncs and stores to y: candidate 1 has read nothing of x, but what was stored to y.
func TestWhatASectionKeeps(t *testing.T) {
	x, y := load(0, 0), load(1, 1)
	for _, c := range []struct {
		what string
		own  code
		want int
	}{
		{"both within", code{enter, x, y, leave}, spanning},
		{"x ahead", code{x, enter, y, leave}, allowed},
		{"y behind", code{enter, x, leave, y}, allowed},
		{"x ahead, y behind", code{x, enter, leave, y}, allowed},
		{"both ahead", code{x, y, enter, leave}, allowed},
		{"both behind", code{enter, leave, x, y}, allowed},
		{"two sections", code{enter, x, leave, enter, y, leave}, allowed},
		{"one Full", code{enter, x, full, y, leave}, spanning},
		{"x ahead of Full and section", code{x, full, enter, y, leave}, allowed},
	} {
		judged(t, "P13: "+c.what, threads(c.own, code{store(0, 1), sync, store(1, 1)}), allowed, c.want, allowed, allowed)
	}
	// y is loaded first: candidate 2 has read what was stored to y, but nothing of x
	for _, c := range []struct {
		what string
		own  code
		want int
	}{
		{"y first, both within", code{enter, y, x, leave}, spanning},
		{"y ahead", code{y, enter, x, leave}, spanning},
		{"x behind", code{enter, y, leave, x}, spanning},
		{"y ahead, x behind", code{y, enter, leave, x}, spanning},
		{"y and x ahead", code{y, x, enter, leave}, allowed},
		{"y and x behind", code{enter, leave, y, x}, allowed},
		{"Full between", code{enter, y, full, x, leave}, circular},
		{"y in one, x in the next", code{enter, y, leave, enter, x, leave}, spanning},
	} {
		judged(t, "P13: "+c.what, threads(c.own, code{store(0, 1), sync, store(1, 1)}), allowed, allowed, c.want, allowed)
	}
}

// What the other thread does must stand on both sides of the Sync.
func TestWhatASyncKeeps(t *testing.T) {
	section := code{enter, load(0, 0), load(1, 1), leave}
	for _, c := range []struct {
		what  string
		other code
		want  int
	}{
		{"between", code{store(0, 1), sync, store(1, 1)}, spanning},
		{"ahead of both", code{sync, store(0, 1), store(1, 1)}, allowed},
		{"behind both", code{store(0, 1), store(1, 1), sync}, allowed},
		{"twice", code{store(0, 1), sync, sync, store(1, 1)}, spanning},
		{"one of two", code{sync, store(0, 1), sync, store(1, 1)}, spanning},
		{"ahead and behind", code{sync, store(0, 1), store(1, 1), sync}, allowed},
		{"Full in its place", code{store(0, 1), full, store(1, 1)}, allowed},
		{"with a section around the stores", code{enter, store(0, 1), leave, sync, enter, store(1, 1), leave}, spanning},
	} {
		judged(t, "P13: "+c.what, threads(section, c.other), allowed, c.want, allowed, allowed)
		// the thread with the Sync may come first, too; its events have the lesser numbers then
		judged(t, "P13: "+c.what+", first", threads(c.other, section), allowed, c.want, allowed, allowed)
	}
	judged(t, "P13: the other way", threads(section, code{store(1, 1), sync, store(0, 1)}), allowed, allowed, spanning, allowed)
	judged(t, "P13: a Sync behind one's own section", threads(code{enter, load(0, 0), leave, sync, load(1, 0)}, code{store(0, 1)}), allowed, allowed, incoherent, allowed)
}

// Sections that hang together by what is read need as many Syncs as they are.
func TestSectionsTogether(t *testing.T) {
	first := code{enter, load(0, 0), store(1, 1), leave}
	second := code{enter, load(0, 1), store(2, 1), leave}
	for _, c := range []struct {
		what string
		last code
		want int
	}{
		{"no Sync", code{load(0, 2), full, store(0, 1)}, allowed},
		{"one Sync", code{load(0, 2), sync, store(0, 1)}, allowed},
		{"two Syncs", code{load(0, 2), sync, sync, store(0, 1)}, spanning},
		{"two Syncs, one aside", code{sync, load(0, 2), sync, store(0, 1)}, allowed},
	} {
		x := threads(first, second, c.last)
		judgedExec(t, "P13: two sections, "+c.what, x, seeing(x, 0, 1, 2), c.want)
		judgedExec(t, "P13: two sections, one is not seen, "+c.what, x, seeing(x, 0, 1), allowed)
		x = threads(c.last, second, first)
		judgedExec(t, "P13: two sections, turned, "+c.what, x, seeing(x, 0, 1, 2), c.want)
		if c.want == spanning {
			x = threads(first, second, append(c.last, enter, leave))
			judgedExec(t, "P13: three sections, "+c.what, x, seeing(x, 0, 1, 2), c.want)
		}
	}
	x := threads(first, code{load(0, 1), sync, store(2, 1)}, code{load(0, 2), sync, store(0, 1)})
	judgedExec(t, "P13: one section, two threads sync", x, seeing(x, 0, 1, 2), spanning)
	x = threads(first, code{load(0, 1), store(2, 1), sync}, code{load(0, 2), sync, store(0, 1)})
	judgedExec(t, "P13: one section, two threads sync, one too late", x, seeing(x, 0, 1, 2), allowed)
	x = threads(first, code{load(0, 1), full, store(2, 1)}, code{load(0, 2), sync, store(0, 1)})
	judgedExec(t, "P13: one section, one thread syncs, one has a fence", x, seeing(x, 0, 1, 2), spanning)
}

// What is named ahead of Spanning is the answer, if that is so, too.
func TestSpanningComesLast(t *testing.T) {
	// 0 Begin, 1 Rx, 2 Ry, 3 End; 4 Wx, 5 Start, 6 Finish, 7 Wy; 8 R, 9 W of z, 10 Rz; 11 Wz
	x := threads(code{enter, load(0, 0), load(1, 1), leave}, code{store(0, 1), sync, store(1, 1)}, code{swap(0, 2, 1), load(1, 2)}, code{store(2, 2)})
	order := func(z ...int) [][]int { return [][]int{{4}, {7}, z} }
	for _, c := range []struct {
		what string
		x    api.Exec
		want int
	}{
		{"Spanning", api.Exec{From: []int{-1, 7, -1, 9}, Order: order(9, 11)}, spanning},
		{"Torn and Spanning", api.Exec{From: []int{-1, 7, -1, 9}, Order: order(11, 9)}, torn},
		{"Incoherent and Spanning", api.Exec{From: []int{-1, 7, -1, -1}, Order: order(9, 11)}, incoherent},
		{"Incoherent, Torn and Spanning", api.Exec{From: []int{-1, 7, -1, -1}, Order: order(11, 9)}, incoherent},
		{"none", api.Exec{From: []int{4, 7, -1, 9}, Order: order(9, 11)}, allowed},
	} {
		judgedExec(t, "P13: "+c.what, x, c.x, c.want)
	}
	// 0 Begin, 1 Rx, 2 Ry, 3 End; 4 Wx, 5 Start, 6 Finish, 7 Wy, 8 Wz; 9 Rz, 10 Ry
	both := func(z api.Instr) api.Test {
		return threads(code{enter, load(0, 0), load(1, 1), leave}, code{store(0, 1), sync, store(1, 1), z}, code{acquire(load(0, 2)), load(1, 1)})
	}
	judgedExec(t, "P13: Circular and Spanning", both(release(store(2, 1))), exec([]int{-1, 7, 8, -1}, []int{4}, []int{7}, []int{8}), circular)
	judgedExec(t, "P13: Spanning, not Circular", both(store(2, 1)), exec([]int{-1, 7, 8, -1}, []int{4}, []int{7}, []int{8}), spanning)
}
