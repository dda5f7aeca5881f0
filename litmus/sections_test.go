package litmus_test

import (
	"fmt"
	"testing"

	"litmus/api"
	"litmus/litmus"
)

// readsOf asks for what a candidate has read: that the registers into which something is read hold that in the end.
func readsOf(x api.Test, n int) []api.Atom {
	c, _ := litmus.Candidate(x, n)
	r := newTrial(x, eventsOf(x), c)
	var l []api.Atom
	held := r.held()
	for i, e := range r.events {
		if e.Kind == api.Read {
			at := inReg(e.Thread, r.instr(i).Reg, 0)
			l = append(l, inReg(at.Thread, at.At, held[at]))
		}
	}
	return l
}

// spans compares Judge of all candidates, from 0 on, and what State, Outcomes, Verdict and Witness must make of these answers, with the reads of each candidate as the condition, in turn.
func spans(t *testing.T, what string, x api.Test, want ...int) {
	t.Helper()
	judged(t, "P13: "+what, x, want...)
	for n := range want {
		x.Cond = readsOf(x, n)
		for _, forall := range []bool{false, true} {
			x.Forall = forall
			sameEnds(t, x, want)
		}
	}
}

// publish: x is stored ahead of a Sync, y behind it.
func publish() code { return code{store(0, 1), sync, store(1, 1)} }

// look: a section that loads x and y.
func look() code { return code{enter, load(0, 0), load(1, 1), leave} }

func TestASectionAndASync(t *testing.T) {
	spans(t, "the example", threads(look(), publish()), allowed, spanning, allowed, allowed)
	spans(t, "the Sync's thread first", threads(publish(), look()), allowed, spanning, allowed, allowed)
	spans(t, "y ahead of x", threads(code{enter, load(0, 1), load(1, 0), leave}, publish()), allowed, allowed, spanning, allowed)
	spans(t, "into one register", threads(code{enter, load(2, 0), load(2, 1), leave}, publish()), allowed, spanning, allowed, allowed)
	spans(t, "stores and loads by turns", threads(code{enter, store(0, 1), load(0, 1), leave}, code{store(1, 1), sync, load(0, 0)}), spanning, allowed, allowed, allowed)
	spans(t, "a section that stores", threads(code{enter, store(0, 1), store(1, 1), leave}, code{load(0, 1), sync, load(1, 0)}), allowed, allowed, spanning, allowed)
	spans(t, "a section that takes and gives", threads(code{enter, load(0, 0), store(1, 1), leave}, code{load(0, 1), sync, store(0, 1)}), allowed, allowed, allowed, spanning)
	spans(t, "a section that takes and gives on", threads(code{enter, load(0, 0), copyTo(1, 0), leave}, code{load(0, 1), sync, store(0, 1)}), allowed, allowed, allowed, circular)
}

// Nothing is read. In candidate 1 the list of x is 1 4, that of y 7 2: the section has stored to x ahead of the other thread, and to y behind it.
func TestASectionBetweenStores(t *testing.T) {
	section := code{enter, store(0, 2), store(1, 2), leave}
	spans(t, "orders of stores", threads(section, publish()), allowed, spanning, allowed, allowed)
	spans(t, "orders of stores, no Sync", threads(section, code{store(0, 1), full, store(1, 1)}), allowed, allowed, allowed, allowed)
}

// Two threads with a section see what one thread has stored ahead of its Sync and behind it.
func TestTwoSectionsLook(t *testing.T) {
	spans(t, "two sections look", threads(look(), look(), publish()),
		allowed, spanning, allowed, allowed,
		spanning, spanning, spanning, spanning,
		allowed, spanning, allowed, allowed,
		allowed, spanning, allowed, allowed)
	spans(t, "one looks in a section", threads(code{load(0, 0), load(1, 1)}, publish(), look()),
		allowed, spanning, allowed, allowed,
		allowed, spanning, allowed, allowed,
		allowed, spanning, allowed, allowed,
		allowed, spanning, allowed, allowed)
	spans(t, "both look, neither at both", threads(code{enter, load(0, 0), leave}, publish(), code{enter, load(0, 1), leave}), allowed, allowed, allowed, allowed)
	// what the first one has seen it hands on to the second one
	hand := code{enter, load(0, 1), store(2, 1), leave}
	take := code{enter, load(0, 2), load(1, 0), leave}
	spans(t, "one Sync, handed on", threads(hand, take, publish()), allowed, allowed, allowed, allowed, allowed, allowed, allowed, allowed)
	spans(t, "two Syncs, handed on", threads(hand, take, code{store(0, 1), sync, sync, store(1, 1)}), allowed, allowed, allowed, allowed, allowed, allowed, spanning, allowed)
	spans(t, "two Syncs, handed on, other threads first", threads(code{store(0, 1), sync, sync, store(1, 1)}, take, hand), allowed, allowed, allowed, allowed, allowed, spanning, allowed, allowed)
}

// Each thread of a ring stores what the next one loads; in candidate 0 all load what was there at first.
func TestRings(t *testing.T) {
	in := func(loc int, next int) code { return code{enter, store(loc, 1), load(0, next), leave} }
	with := func(loc int, next int, l ...api.Instr) code { return join(code{store(loc, 1)}, l, code{load(0, next)}) }
	rest := []int{allowed, allowed, allowed, allowed, allowed, allowed, allowed}
	for _, c := range []struct {
		what string
		x    api.Test
		want int
	}{
		{"two sections, one Sync", threads(in(0, 1), in(1, 2), with(2, 0, sync)), allowed},
		{"two sections, two Syncs", threads(in(0, 1), in(1, 2), with(2, 0, sync, sync)), spanning},
		{"two sections, two Syncs with a section between", threads(in(0, 1), in(1, 2), with(2, 0, sync, enter, leave, sync)), spanning},
		{"two sections and one behind, two Syncs", threads(join(in(0, 1), code{enter, leave}), in(1, 2), with(2, 0, sync, sync)), spanning},
		{"two sections and one ahead, two Syncs", threads(join(code{enter, leave}, in(0, 1)), in(1, 2), with(2, 0, sync, sync)), spanning},
		{"two sections, two Syncs, one ahead of the store", threads(in(0, 1), in(1, 2), join(code{sync}, with(2, 0, sync))), allowed},
		{"two sections, two Syncs, one behind the load", threads(in(0, 1), in(1, 2), join(with(2, 0, sync), code{sync})), allowed},
		{"one section, two Syncs", threads(in(0, 1), with(1, 2, sync), with(2, 0, sync)), spanning},
		{"one section, a Sync and a fence", threads(in(0, 1), with(1, 2, sync), with(2, 0, full)), spanning},
		{"one section, a Sync and nothing", threads(in(0, 1), with(1, 2, sync), with(2, 0)), allowed},
		{"three sections, no Sync", threads(in(0, 1), in(1, 2), in(2, 0)), allowed},
		{"three sections, a Sync elsewhere", threads(in(0, 1), in(1, 2), in(2, 0), code{sync, sync}), allowed},
		{"no section, two Syncs", threads(with(0, 1, full), with(1, 2, sync), with(2, 0, sync)), circular},
	} {
		spans(t, "a ring, "+c.what, c.x, append([]int{c.want}, rest...)...)
	}
}

// Neither arrow of the first section with the first Sync makes a circle by itself, but one of them does with what must be chosen later: what is allowed then is not Spanning.
func TestChoicesAreTakenBack(t *testing.T) {
	all := []int{allowed, allowed, allowed, allowed}
	for _, first := range []code{{sync, sync, store(1, 1)}, {sync, full, sync, store(1, 1)}} {
		spans(t, "both sections behind both Syncs", threads(code{enter, load(0, 0), leave}, code{enter, load(0, 1), store(0, 1), leave}, first), all...)
		spans(t, "both sections behind both Syncs, turned", threads(first, code{enter, load(0, 1), store(0, 1), leave}, code{enter, load(0, 0), leave}), all...)
	}
	last := code{load(0, 1), sync, sync}
	spans(t, "both sections ahead of both Syncs", threads(code{enter, store(0, 1), leave}, code{enter, load(0, 0), store(1, 1), leave}, last), all...)
	spans(t, "both sections ahead of both Syncs, turned", threads(last, code{enter, load(0, 0), store(1, 1), leave}, code{enter, store(0, 1), leave}), all...)
}

func TestSectionsAndSyncsInOneThread(t *testing.T) {
	spans(t, "one thread", threads(code{enter, store(0, 1), leave, sync, enter, load(0, 0), leave}), incoherent, allowed)
	spans(t, "one thread, two Syncs", threads(code{sync, enter, load(0, 0), leave, sync, enter, store(0, 1), leave, enter, leave}), allowed, incoherent)
	spans(t, "a Sync behind the other section", threads(join(look(), code{sync}), publish()), allowed, spanning, allowed, allowed)
	spans(t, "a Sync ahead of the other section", threads(join(code{sync}, look()), publish()), allowed, spanning, allowed, allowed)
	spans(t, "a Sync between the sections", threads(code{enter, load(0, 0), leave, sync, enter, load(1, 1), leave}, publish()), allowed, allowed, allowed, allowed)
	spans(t, "a Sync between the sections, y first", threads(code{enter, load(0, 1), leave, sync, enter, load(1, 0), leave}, publish()), allowed, allowed, circular, allowed)
	spans(t, "sections around both stores", threads(look(), code{enter, store(0, 1), leave, sync, enter, store(1, 1), leave}), allowed, spanning, allowed, allowed)
	// a section and a Sync in each of two threads: the first section lasts too long for the second Sync, or the other way
	one := code{enter, store(0, 1), load(0, 1), leave}
	spans(t, "a Sync at the end, a section behind a Sync", threads(join(one, code{sync}), code{store(1, 1), sync, enter, load(0, 0), leave}), spanning, allowed, allowed, allowed)
	spans(t, "a Sync at the beginning, a section ahead of a Sync", threads(join(code{sync}, one), code{enter, store(1, 1), leave, sync, load(0, 0)}), spanning, allowed, allowed, allowed)
	spans(t, "Syncs at the ends alone", threads(join(code{sync}, one), code{enter, store(1, 1), load(0, 0), leave, sync}), allowed, allowed, allowed, allowed)
	spans(t, "Syncs between", threads(code{enter, store(0, 1), leave, sync, load(0, 1)}, code{store(1, 1), sync, enter, load(0, 0), leave}), circular, allowed, allowed, allowed)
}

func TestASectionOrASyncAlone(t *testing.T) {
	all := []int{allowed, allowed, allowed, allowed}
	spans(t, "no Sync", threads(look(), code{store(0, 1), store(1, 1)}), all...)
	spans(t, "no Sync, a fence", threads(look(), code{store(0, 1), full, store(1, 1)}), all...)
	spans(t, "no Sync, a section in each thread", threads(look(), code{enter, store(0, 1), leave, enter, store(1, 1), leave}), all...)
	spans(t, "no section", threads(code{load(0, 0), load(1, 1)}, publish()), all...)
	spans(t, "no section, a Sync in each thread", threads(code{load(0, 0), sync, load(1, 1)}, publish()), all...)
	spans(t, "no section, a Sync in each thread, y first", threads(code{load(0, 1), sync, load(1, 0)}, publish()), allowed, allowed, circular, allowed)
	spans(t, "nothing but a section", threads(code{enter, leave}), allowed)
	spans(t, "nothing but a Sync", threads(code{sync}), allowed)
	spans(t, "nothing but sections and Syncs", threads(code{enter, leave, sync}, code{sync, enter, leave}, code{enter, leave}), allowed)
}

// A section without instructions in it parts what is around it no less.
func TestASectionWithoutInstructions(t *testing.T) {
	x, y := load(0, 0), load(1, 1)
	spans(t, "between, x first", threads(code{x, enter, leave, y}, publish()), allowed, allowed, allowed, allowed)
	spans(t, "between, y first", threads(code{y, enter, leave, x}, publish()), allowed, allowed, spanning, allowed)
	spans(t, "between, y first, twice", threads(code{y, enter, leave, enter, leave, x}, publish()), allowed, allowed, spanning, allowed)
	spans(t, "at the end, x first", threads(code{x, y, enter, leave}, publish()), allowed, allowed, allowed, allowed)
	spans(t, "at the end, y first", threads(code{y, x, enter, leave}, publish()), allowed, allowed, allowed, allowed)
	spans(t, "at the beginning, x first", threads(code{enter, leave, x, y}, publish()), allowed, allowed, allowed, allowed)
	spans(t, "at the beginning, y first", threads(code{enter, leave, y, x}, publish()), allowed, allowed, allowed, allowed)
	spans(t, "a fence alone in it", threads(code{y, enter, full, leave, x}, publish()), allowed, allowed, circular, allowed)
	spans(t, "a fence of Loads alone in it", threads(code{y, enter, fence(api.Loads), leave, x}, publish()), allowed, allowed, circular, allowed)
	spans(t, "a fence of Stores alone in it", threads(code{y, enter, fence(api.Stores), leave, x}, publish()), allowed, allowed, spanning, allowed)
	spans(t, "in a thread of its own", threads(code{y, x}, publish(), code{enter, leave}), allowed, allowed, allowed, allowed)
}

func TestSectionsAndSyncsAtTheEnds(t *testing.T) {
	x, y := load(0, 0), load(1, 1)
	spans(t, "the section at the end, y ahead", threads(code{y, enter, x, leave}, publish()), allowed, allowed, spanning, allowed)
	spans(t, "the section at the beginning, x behind", threads(code{enter, y, leave, x}, publish()), allowed, allowed, spanning, allowed)
	spans(t, "the section at the end, x ahead", threads(code{x, enter, y, leave}, publish()), allowed, allowed, allowed, allowed)
	spans(t, "the section at the beginning, y behind", threads(code{enter, x, leave, y}, publish()), allowed, allowed, allowed, allowed)
	spans(t, "the Sync at the beginning", threads(look(), code{sync, store(0, 1), store(1, 1)}), allowed, allowed, allowed, allowed)
	spans(t, "the Sync at the end", threads(look(), code{store(0, 1), store(1, 1), sync}), allowed, allowed, allowed, allowed)
	spans(t, "Syncs at both ends", threads(look(), code{sync, store(0, 1), store(1, 1), sync}), allowed, allowed, allowed, allowed)
	spans(t, "Syncs in threads of their own", threads(look(), code{sync}, code{store(0, 1), store(1, 1)}, code{sync}), allowed, allowed, allowed, allowed)
	spans(t, "as many instructions as may be", threads(join(times(8, full), look()), join(code{store(0, 1)}, times(10, fence(api.Loads)), code{sync})), allowed, allowed)
	spans(t, "as many instructions as may be, behind", threads(join(look(), times(8, full)), join(times(5, fence(api.Loads)), publish(), times(4, full))), allowed, spanning, allowed, allowed)
}

// What is named ahead of Spanning is told, and neither counts for anything that comes out.
func TestWhatWouldBeSpanningBesides(t *testing.T) {
	// x, y and y again: the second load of y sees less than the first one
	twice := code{enter, load(0, 0), load(1, 1), load(2, 1), leave}
	spans(t, "Incoherent", threads(twice, publish()), allowed, spanning, incoherent, spanning, allowed, allowed, incoherent, allowed)
	// by x, then by what the swap reads, then by the order: the swap's Write is 3, the store of y 8
	swapping := code{enter, load(0, 0), swap(1, 1, 2), leave}
	spans(t, "Torn", threads(swapping, publish()),
		allowed, torn, incoherent, incoherent, incoherent, spanning,
		allowed, torn, incoherent, incoherent, incoherent, allowed)
	for _, between := range []api.Instr{full, fence(api.Loads)} {
		spans(t, "Circular", threads(code{enter, load(1, 1), between, load(0, 0), leave}, publish()), allowed, allowed, circular, allowed)
		spans(t, "not Circular", threads(code{enter, load(0, 0), between, load(1, 1), leave}, publish()), allowed, spanning, allowed, allowed)
	}
	spans(t, "Circular by a mode", threads(code{enter, acquire(load(1, 1)), load(0, 0), leave}, publish()), allowed, allowed, circular, allowed)
	spans(t, "not Circular by a mode", threads(code{enter, load(1, 1), acquire(load(0, 0)), leave}, publish()), allowed, allowed, spanning, allowed)
}

// spanningExec: an execution of the example that is Spanning.
func spanningExec() api.Exec { return exec([]int{-1, 7}, []int{4}, []int{7}, nil) }

// ErrExec and the errors of Check come ahead, though what is handed in would be Spanning but for them.
func TestErrorsComeAheadOfSpanning(t *testing.T) {
	x := threads(look(), publish())
	judgedExec(t, "P13: all is well", x, spanningExec(), spanning)
	notStated(t, "all is well", x, spanningExec(), api.ErrForbidden)
	for _, c := range []api.Exec{
		exec([]int{-1}, []int{4}, []int{7}, nil),
		exec([]int{-1, 7, -1}, []int{4}, []int{7}, nil),
		exec([]int{-1, 4}, []int{4}, []int{7}, nil),
		exec([]int{0, 7}, []int{4}, []int{7}, nil),
		exec([]int{3, 7}, []int{4}, []int{7}, nil),
		exec([]int{5, 7}, []int{4}, []int{7}, nil),
		exec([]int{6, 7}, []int{4}, []int{7}, nil),
		exec([]int{-1, 7}, []int{4}, []int{7}),
		exec([]int{-1, 7}, []int{4, 5}, []int{7}, nil),
		exec([]int{-1, 7}, []int{4}, nil, []int{7}),
		exec([]int{-1, 7}, []int{4}, []int{7}, []int{most}),
	} {
		noExec(t, "near to what is Spanning", x, c)
		notStated(t, "near to what is Spanning", x, c, api.ErrExec)
	}
	for _, c := range []refusedTest{
		{threads(look(), publish(), nil, nil, nil), api.ErrSize},
		{threads(look(), join(publish(), times(10, full))), api.ErrSize},
		{threads(look(), join(publish(), code{wrong})), api.ErrInstr},
		{threads(look(), code{store(0, 1), moded(sync, 1), store(1, 1)}), api.ErrInstr},
		{threads(code{moded(enter, 1), load(0, 0), load(1, 1), leave}, publish()), api.ErrInstr},
		{threads(look(), publish(), code{enter}), api.ErrNest},
		{threads(look(), publish(), code{leave}), api.ErrNest},
		{threads(look(), publish(), code{enter, sync, leave}), api.ErrNest},
		{asking(x, inReg(2, 0, 0)), api.ErrCond},
		{threads(look(), publish(), times(3, enter, leave)), api.ErrMany},
		{threads(look(), publish(), code{sync, sync}), api.ErrMany},
	} {
		refusedAll(t, c, spanningExec())
	}
}

// refusedAll: all five calls that stand on Judge tell an error of Check and nothing else.
func refusedAll(t *testing.T, c refusedTest, x api.Exec) {
	t.Helper()
	what := fmt.Sprint(c.x.Threads)
	if j, e := litmus.Judge(c.x, x); j != 0 || e != c.want {
		t.Errorf("P6: %s: Judge = %d, %d, want %d", what, j, e, c.want)
	}
	notStated(t, what, c.x, x, c.want)
	if l, e := litmus.Outcomes(c.x); l != nil || e != c.want {
		t.Errorf("P11: %s: Outcomes = %v, %d, want %d", what, l, e, c.want)
	}
	if r, e := litmus.Verdict(c.x); r != (api.Report{}) || e != c.want {
		t.Errorf("P12: %s: Verdict = %v, %d, want %d", what, r, e, c.want)
	}
	if n, w, e := litmus.Witness(c.x); n != 0 || w.From != nil || w.Order != nil || e != c.want {
		t.Errorf("P12: %s: Witness = %d, %v, %d, want %d", what, n, w, e, c.want)
	}
}
