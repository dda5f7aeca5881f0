package litmus_test

import (
	"fmt"
	"testing"

	"litmus/api"
	"litmus/litmus"
)

// inReg and inLoc: atoms.
func inReg(thread int, at int, val int) api.Atom { return api.Atom{Thread: thread, At: at, Val: val} }

func inLoc(at int, val int) api.Atom { return api.Atom{Thread: -1, At: at, Val: val} }

// decided compares Verdict, without Forall and with it: of both, Verdict, Good and Bad are the same.
func decided(t *testing.T, what string, x api.Test, verdict int, good int, bad int) {
	t.Helper()
	for _, forall := range []bool{false, true} {
		x.Forall = forall
		want := api.Report{Verdict: verdict, Good: good, Bad: bad, Holds: good > 0}
		if forall {
			want.Holds = bad == 0
		}
		if r, e := litmus.Verdict(x); r != want || e != api.OK {
			t.Errorf("P12: %s: Verdict with Forall %v = %v, %d, want %v", what, forall, r, e, want)
		}
	}
}

// witnessed compares Witness: without Forall and with it the number of the candidate, or -1.
func witnessed(t *testing.T, what string, x api.Test, good int, bad int) {
	t.Helper()
	for _, forall := range []bool{false, true} {
		x.Forall = forall
		want := good
		if forall {
			want = bad
		}
		n, c, e := litmus.Witness(x)
		if n != want || e != api.OK {
			t.Errorf("P12: %s: Witness with Forall %v = %d, %d, want %d", what, forall, n, e, want)
		}
		if want == -1 && (c.From != nil || c.Order != nil) {
			t.Errorf("P12: %s: Witness with Forall %v: there is none, but %v came out", what, forall, c)
		}
		if d, _ := litmus.Candidate(x, want); want != -1 && fmt.Sprint(c) != fmt.Sprint(d) {
			t.Errorf("P12: %s: Witness with Forall %v: %v, want %v", what, forall, c, d)
		}
	}
}

// buffers: two stores, two loads, and in each thread something between.
func buffers(between ...api.Instr) api.Test {
	return threads(join(code{store(0, 1)}, between, code{load(0, 1)}), join(code{store(1, 1)}, between, code{load(0, 0)}))
}

func TestVerdictOfExamples(t *testing.T) {
	noughts := []api.Atom{inReg(0, 0, 0), inReg(1, 0, 0)}
	x := asking(buffers(), noughts...)
	decided(t, "two stores, two loads", x, api.Sometimes, 1, 3)
	witnessed(t, "two stores, two loads", x, 0, 1)
	x = asking(buffers(full), noughts...)
	decided(t, "with Full", x, api.Never, 0, 3)
	witnessed(t, "with Full", x, -1, 1)
	for _, mode := range []int{api.Loads, api.Stores} {
		x = asking(buffers(fence(mode)), noughts...)
		decided(t, "with another fence", x, api.Sometimes, 1, 3)
		witnessed(t, "with another fence", x, 0, 1)
	}
	message := []api.Atom{inReg(1, 0, 1), inReg(1, 1, 0)}
	x = asking(threads(code{store(0, 1), store(1, 1)}, code{load(0, 1), load(1, 0)}), message...)
	decided(t, "a message", x, api.Sometimes, 1, 3)
	witnessed(t, "a message", x, 2, 0)
	x = asking(threads(code{store(0, 1), release(store(1, 1))}, code{acquire(load(0, 1)), load(1, 0)}), message...)
	decided(t, "a message, with modes", x, api.Never, 0, 3)
	witnessed(t, "a message, with modes", x, -1, 0)
	x = asking(threads(code{enter, load(0, 0), load(1, 1), leave}, code{store(0, 1), sync, store(1, 1)}), inReg(0, 0, 0), inReg(0, 1, 1))
	decided(t, "a section", x, api.Never, 0, 3)
	witnessed(t, "a section", x, -1, 0)
	x = asking(threads(code{store(0, 1), load(0, 0)}), inReg(0, 0, 1))
	decided(t, "what one wrote oneself", x, api.Always, 1, 0)
	witnessed(t, "what one wrote oneself", x, 1, -1)
	x = asking(threads(code{load(0, 0), copyTo(1, 0)}, code{load(0, 1), copyTo(0, 0)}), inReg(0, 0, 0), inReg(1, 0, 0))
	decided(t, "out of nothing", x, api.Always, 3, 0)
	witnessed(t, "out of nothing", x, 0, -1)
}

func TestVerdictOfNothing(t *testing.T) {
	decided(t, "no events, no atoms", threads(nil), api.Always, 1, 0)
	witnessed(t, "no events, no atoms", threads(nil), 0, -1)
	x := asking(threads(nil), inLoc(2, 0), inReg(0, 2, 0))
	decided(t, "no events", x, api.Always, 1, 0)
	witnessed(t, "no events", x, 0, -1)
	x = asking(threads(nil), inLoc(0, 1))
	decided(t, "no events, nothing holds 1", x, api.Never, 0, 1)
	witnessed(t, "no events, nothing holds 1", x, -1, 0)
	decided(t, "no atoms", buffers(), api.Always, 4, 0)
	witnessed(t, "no atoms", buffers(), 0, -1)
	decided(t, "no atoms, with Full", buffers(full), api.Always, 3, 0)
	witnessed(t, "no atoms, with Full", buffers(full), 1, -1)
	x = asking(threads(nil, code{store(0, 1), load(0, 0)}, nil), inReg(0, 0, 0), inReg(1, 0, 1), inReg(2, 0, 0))
	decided(t, "threads without instructions", x, api.Always, 1, 0)
	witnessed(t, "threads without instructions", x, 1, -1)
	empty := x
	empty.Cond = []api.Atom{}
	decided(t, "an empty list of atoms", empty, api.Always, 1, 0)
}

// wide: all four threads, where registers and locations hold different numbers in the end.
func wide() api.Test {
	return threads(code{store(0, 1), load(0, 0)}, code{store(1, 2), load(1, 1)}, code{store(2, 3), load(2, 2)}, code{load(2, 0)})
}

// An atom asks for one register or one location, and for no other one.
func TestVerdictOfEachAtom(t *testing.T) {
	sure := map[api.Atom]int{inReg(0, 0, 0): 1, inReg(1, 1, 0): 2, inReg(2, 2, 0): 3, inLoc(0, 0): 1, inLoc(1, 0): 2, inLoc(2, 0): 3}
	for thread := -1; thread < 4; thread++ {
		for at := 0; at < 3; at++ {
			for val := 0; val <= api.MaxVal; val++ {
				a := api.Atom{Thread: thread, At: at, Val: val}
				what := fmt.Sprint("wide, ", a)
				x := asking(wide(), a)
				switch {
				case thread == 3 && at == 2 && val < 2:
					decided(t, what, x, api.Sometimes, 1, 1)
				case val == sure[api.Atom{Thread: thread, At: at}]:
					decided(t, what, x, api.Always, 2, 0)
				default:
					decided(t, what, x, api.Never, 0, 2)
				}
			}
		}
	}
}

// All atoms must hold, wherever the one stands that does not.
func TestVerdictOfSeveralAtoms(t *testing.T) {
	holding := []api.Atom{inReg(0, 0, 1), inReg(1, 1, 2), inReg(2, 2, 3), inLoc(0, 1), inLoc(1, 2), inLoc(2, 3)}
	decided(t, "six atoms", asking(wide(), holding...), api.Always, 2, 0)
	for at := range holding {
		l := append([]api.Atom{}, holding...)
		l[at].Val--
		decided(t, fmt.Sprint("six atoms, not ", at), asking(wide(), l...), api.Never, 0, 2)
		l[at] = inReg(3, 2, 1)
		decided(t, fmt.Sprint("six atoms, sometimes ", at), asking(wide(), l...), api.Sometimes, 1, 1)
	}
	same := inReg(0, 0, 1)
	decided(t, "one atom twice", asking(buffers(), same, same), api.Sometimes, 2, 2)
	decided(t, "atoms that rule each other out", asking(buffers(), inReg(0, 0, 0), same), api.Never, 0, 4)
	witnessed(t, "atoms that rule each other out", asking(buffers(), inReg(0, 0, 0), same), -1, 0)
	decided(t, "a register and a location", asking(buffers(), same, inLoc(0, 1)), api.Sometimes, 2, 2)
	decided(t, "a location that nothing writes", asking(buffers(), inLoc(2, 0)), api.Always, 4, 0)
	decided(t, "a location that nothing writes, 3", asking(buffers(), inLoc(2, 3)), api.Never, 0, 4)
}

// Candidates are counted, not outcomes; those that are not allowed are neither good nor bad.
func TestVerdictCountsCandidates(t *testing.T) {
	three := threads(code{store(1, 1), store(1, 2)}, code{store(1, 3)})
	decided(t, "2 is last", asking(three, inLoc(1, 2)), api.Sometimes, 2, 1)
	decided(t, "3 is last", asking(three, inLoc(1, 3)), api.Sometimes, 1, 2)
	decided(t, "1 is last", asking(three, inLoc(1, 1)), api.Never, 0, 3)
	swaps := threads(code{swap(0, 0, 1)}, code{swap(0, 0, 2)})
	decided(t, "one swap first", asking(swaps, inReg(0, 0, 0)), api.Sometimes, 1, 1)
	decided(t, "both swaps first", asking(swaps, inReg(0, 0, 0), inReg(1, 0, 0)), api.Never, 0, 2)
	decided(t, "swaps, no atoms", swaps, api.Always, 2, 0)
}

// The number of a witness is that among all candidates, not among the allowed ones.
func TestWitnessIsTheFirst(t *testing.T) {
	swaps := threads(code{swap(0, 0, 1)}, code{swap(0, 0, 2)})
	witnessed(t, "swaps, no atoms", swaps, 2, -1)
	witnessed(t, "swaps, 1 is last", asking(swaps, inLoc(0, 1)), 13, 2)
	witnessed(t, "swaps, 2 is last", asking(swaps, inLoc(0, 2)), 2, 13)
	witnessed(t, "swaps, 3 is last", asking(swaps, inLoc(0, 3)), -1, 2)
	witnessed(t, "both ones", asking(buffers(), inReg(0, 0, 1), inReg(1, 0, 1)), 3, 0)
	witnessed(t, "the first one", asking(buffers(), inReg(0, 0, 1)), 2, 0)
	witnessed(t, "the first nought", asking(buffers(), inReg(0, 0, 0)), 0, 2)
	witnessed(t, "the stores", asking(buffers(), inLoc(0, 1), inLoc(1, 1)), 0, -1)
	// by Order alone: 0 1 2, 0 2 1, 1 0 2, 1 2 0, 2 0 1, 2 1 0, where 0 stays ahead of 1
	three := threads(code{store(1, 1), store(1, 2)}, code{store(1, 3)})
	witnessed(t, "3 is last", asking(three, inLoc(1, 3)), 0, 1)
	witnessed(t, "2 is last", asking(three, inLoc(1, 2)), 1, 0)
	witnessed(t, "1 is last", asking(three, inLoc(1, 1)), -1, 0)
	// candidate 0 and all with -1 are Incoherent
	one := threads(code{store(2, 3), load(1, 2)}, code{store(2, 2)})
	witnessed(t, "the other one is seen", asking(one, inReg(0, 1, 2)), 4, 2)
}

func TestVerdictTellsErrorsOfCheck(t *testing.T) {
	for _, c := range refusedTests() {
		for _, forall := range []bool{false, true} {
			c.x.Forall = forall
			if r, e := litmus.Verdict(c.x); r != (api.Report{}) || e != c.want {
				t.Errorf("P12: %v: Verdict = %v, %d, want %d", c.x, r, e, c.want)
			}
			if n, w, e := litmus.Witness(c.x); n != 0 || w.From != nil || w.Order != nil || e != c.want {
				t.Errorf("P12: %v: Witness = %d, %v, %d, want 0 and %d", c.x, n, w, e, c.want)
			}
		}
	}
}
