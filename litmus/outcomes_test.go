package litmus_test

import (
	"fmt"
	"testing"

	"litmus/api"
	"litmus/litmus"
)

// comesOut compares Outcomes: each one as its state and its number.
func comesOut(t *testing.T, what string, x api.Test, want ...string) {
	t.Helper()
	l, e := litmus.Outcomes(x)
	var got []string
	for _, o := range l {
		got = append(got, fmt.Sprint(o.State, " ", o.Count))
	}
	if fmt.Sprint(got) != fmt.Sprint(want) || e != api.OK {
		t.Errorf("P11: %s: Outcomes = %v, %d, want %v", what, got, e, want)
	}
}

func TestOutcomesOfNothing(t *testing.T) {
	comesOut(t, "no events", threads(nil), "[0 0 0 0 0 0] 1")
	comesOut(t, "four threads without instructions", threads(nil, nil, nil, nil), "[0 0 0 0 0 0 0 0 0 0 0 0 0 0 0] 1")
	comesOut(t, "fences and marks", threads(code{full, enter, leave}, code{sync, full}), "[0 0 0 0 0 0 0 0 0] 1")
	comesOut(t, "a thread without instructions", threads(nil, code{store(1, 2)}), "[0 0 0 0 0 0 0 2 0] 1")
	comesOut(t, "loads alone", threads(times(12, load(0, 0))), "[0 0 0 0 0 0] 1")
}

func TestOutcomesOfExamples(t *testing.T) {
	with := func(f ...api.Instr) api.Test {
		return threads(join(code{store(0, 1)}, f, code{load(0, 1)}), join(code{store(1, 1)}, f, code{load(0, 0)}))
	}
	all := []string{"[0 0 0 0 0 0 1 1 0] 1", "[0 0 0 1 0 0 1 1 0] 1", "[1 0 0 0 0 0 1 1 0] 1", "[1 0 0 1 0 0 1 1 0] 1"}
	comesOut(t, "two stores, two loads", with(), all...)
	comesOut(t, "two stores, two loads, Loads", with(fence(api.Loads)), all...)
	comesOut(t, "two stores, two loads, Stores", with(fence(api.Stores)), all...)
	comesOut(t, "two stores, two loads, Full", with(full), all[1:]...)
	comesOut(t, "what one wrote oneself", threads(code{store(0, 1), load(0, 0)}), "[1 0 0 1 0 0] 1")
	comesOut(t, "what one wrote later", threads(code{load(0, 0), store(0, 1)}), "[0 0 0 1 0 0] 1")
	comesOut(t, "swaps", threads(code{swap(0, 0, 1)}, code{swap(0, 0, 2)}), "[0 0 0 1 0 0 2 0 0] 1", "[2 0 0 0 0 0 1 0 0] 1")
	comesOut(t, "out of nothing", threads(code{load(0, 0), copyTo(1, 0)}, code{load(0, 1), copyTo(0, 0)}), "[0 0 0 0 0 0 0 0 0] 3")
	section := code{enter, load(0, 0), load(1, 1), leave}
	seen := []string{"[0 0 0 0 0 0 1 1 0] 1", "[0 1 0 0 0 0 1 1 0] 1", "[1 0 0 0 0 0 1 1 0] 1", "[1 1 0 0 0 0 1 1 0] 1"}
	comesOut(t, "a section", threads(section, code{store(0, 1), sync, store(1, 1)}), seen[0], seen[2], seen[3])
	comesOut(t, "a section, no Sync", threads(section, code{store(0, 1), store(1, 1)}), seen...)
}

// Several candidates may come out the same: they are told once, with their number.
func TestOutcomesAreCounted(t *testing.T) {
	comesOut(t, "the same stored twice", threads(code{store(0, 1)}, code{store(0, 1)}), "[0 0 0 0 0 0 1 0 0] 2")
	comesOut(t, "the same stored three times", threads(code{store(2, 2)}, code{store(2, 2)}, code{store(2, 2)}), "[0 0 0 0 0 0 0 0 0 0 0 2] 6")
	comesOut(t, "stored in turn by one thread", threads(times(4, store(0, 1))), "[0 0 0 1 0 0] 1")
	comesOut(t, "three stores of two threads", threads(code{store(1, 1), store(1, 2)}, code{store(1, 3)}), "[0 0 0 0 0 0 0 2 0] 2", "[0 0 0 0 0 0 0 3 0] 1")
	// what comes out the same lies apart among the candidates
	comesOut(t, "nought stored", threads(code{store(0, 0)}, code{load(0, 0)}), "[0 0 0 0 0 0 0 0 0] 2")
	comesOut(t, "nought stored, one stored", threads(code{store(0, 0)}, code{store(0, 1)}, code{load(0, 0)}), "[0 0 0 0 0 0 0 0 0 0 0 0] 2", "[0 0 0 0 0 0 0 0 0 1 0 0] 2", "[0 0 0 0 0 0 1 0 0 0 0 0] 1", "[0 0 0 0 0 0 1 0 0 1 0 0] 1")
	comesOut(t, "read over by a later load", threads(code{store(0, 1)}, code{load(0, 0), load(0, 1)}), "[0 0 0 0 0 0 1 0 0] 2")
	// of the 720 orders a quarter keeps both pairs of one thread as they are
	comesOut(t, "six stores of four threads", threads(code{store(0, 1), store(0, 1)}, code{store(0, 1), store(0, 1)}, code{store(0, 1)}, code{store(0, 1)}), "[0 0 0 0 0 0 0 0 0 0 0 0 1 0 0] 180")
}

// Sorted from the first number on, whatever the order of the candidates.
func TestOutcomesAreSorted(t *testing.T) {
	comesOut(t, "the last number alone differs", threads(code{store(2, 2)}, code{store(2, 1)}), "[0 0 0 0 0 0 0 0 1] 1", "[0 0 0 0 0 0 0 0 2] 1")
	comesOut(t, "the last number alone differs, turned", threads(code{store(2, 1)}, code{store(2, 2)}), "[0 0 0 0 0 0 0 0 1] 1", "[0 0 0 0 0 0 0 0 2] 1")
	comesOut(t, "the first number alone differs", threads(code{load(0, 0)}, code{store(0, 3)}), "[0 0 0 0 0 0 3 0 0] 1", "[3 0 0 0 0 0 3 0 0] 1")
	comesOut(t, "four values of one location", threads(code{store(1, 3)}, code{store(1, 0)}, code{store(1, 2)}, code{store(1, 1)}),
		"[0 0 0 0 0 0 0 0 0 0 0 0 0 0 0] 6", "[0 0 0 0 0 0 0 0 0 0 0 0 0 1 0] 6", "[0 0 0 0 0 0 0 0 0 0 0 0 0 2 0] 6", "[0 0 0 0 0 0 0 0 0 0 0 0 0 3 0] 6")
	// by the candidates the register would go 0, 3, 2, 1
	down := threads(code{store(0, 3), store(0, 2), store(0, 1)}, code{load(0, 0)})
	comesOut(t, "lesser values later", down, "[0 0 0 0 0 0 1 0 0] 1", "[0 0 0 1 0 0 1 0 0] 1", "[0 0 0 2 0 0 1 0 0] 1", "[0 0 0 3 0 0 1 0 0] 1")
	// the register goes up where the location goes down
	comesOut(t, "one up, one down", threads(code{load(0, 0), store(0, 3)}, code{store(0, 2)}),
		"[0 0 0 0 0 0 2 0 0] 1", "[0 0 0 0 0 0 3 0 0] 1", "[2 0 0 0 0 0 3 0 0] 1")
	comesOut(t, "the later thread's register first read", threads(code{load(2, 1)}, code{load(0, 0)}, code{store(0, 2), store(1, 1)}),
		"[0 0 0 0 0 0 0 0 0 2 1 0] 1", "[0 0 0 2 0 0 0 0 0 2 1 0] 1", "[0 0 1 0 0 0 0 0 0 2 1 0] 1", "[0 0 1 2 0 0 0 0 0 2 1 0] 1")
}

// The condition changes nothing of what comes out.
func TestOutcomesWithACondition(t *testing.T) {
	x := asking(threads(code{store(2, 1)}, code{store(2, 2)}), api.Atom{Thread: -1, At: 2, Val: 1})
	for _, forall := range []bool{false, true} {
		x.Forall = forall
		comesOut(t, "with a condition", x, "[0 0 0 0 0 0 0 0 1] 1", "[0 0 0 0 0 0 0 0 2] 1")
	}
}

func TestOutcomesTellErrorsOfCheck(t *testing.T) {
	for _, c := range refusedTests() {
		if l, e := litmus.Outcomes(c.x); l != nil || e != c.want {
			t.Errorf("P11: %v: Outcomes = %v, %d, want %d", c.x, l, e, c.want)
		}
	}
}
