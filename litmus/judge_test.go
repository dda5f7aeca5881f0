package litmus_test

import (
	"testing"

	"litmus/api"
	"litmus/litmus"
)

const (
	allowed    = api.Allowed
	incoherent = api.Incoherent
	torn       = api.Torn
	circular   = api.Circular
	spanning   = api.Spanning
)

func moded(x api.Instr, mode int) api.Instr {
	x.Mode = mode
	return x
}

func release(x api.Instr) api.Instr { return moded(x, api.Release) }

func acquire(x api.Instr) api.Instr { return moded(x, api.Acquire) }

// judged compares Judge of all candidates, from 0 on.
func judged(t *testing.T, what string, x api.Test, want ...int) {
	t.Helper()
	if n, e := litmus.Size(x); n != len(want) || e != api.OK {
		t.Fatalf("P5: %s: Size = %d, %d, want %d", what, n, e, len(want))
	}
	for n := range want {
		judgedOne(t, what, x, n, want[n])
	}
}

// judgedOne compares Judge of one candidate.
func judgedOne(t *testing.T, what string, x api.Test, n int, want int) {
	t.Helper()
	c, e := litmus.Candidate(x, n)
	if e != api.OK {
		t.Fatalf("P5: %s: candidate %d: %d", what, n, e)
	}
	judgedExec(t, what, x, c, want)
}

// judgedExec compares Judge of one execution.
func judgedExec(t *testing.T, what string, x api.Test, c api.Exec, want int) {
	t.Helper()
	if j, e := litmus.Judge(x, c); j != want || e != api.OK {
		t.Errorf("%s: Judge of %v = %d, %d, want %d", what, c, j, e, want)
	}
}

func exec(from []int, order ...[]int) api.Exec { return api.Exec{From: from, Order: order} }

func TestJudgeOfNothing(t *testing.T) {
	judged(t, "P6: no events", threads(nil), allowed)
	judged(t, "P6: fences alone", threads(code{full}, nil, code{fence(api.Loads), fence(api.Stores)}), allowed)
	judgedExec(t, "P6: nil lists", threads(nil), exec(nil, nil, nil, nil), allowed)
	judgedExec(t, "P6: empty lists", threads(nil), exec([]int{}, []int{}, []int{}, []int{}), allowed)
	judgedExec(t, "P6: empty lists of two locations", threads(code{store(2, 1)}), exec([]int{}, nil, []int{}, []int{0}), allowed)
	judged(t, "P6: loads alone", threads(times(12, load(0, 2)), times(12, load(1, 2))), allowed)
}

func TestIncoherent(t *testing.T) {
	judged(t, "P6: Write ahead of Read", threads(code{store(0, 1), load(0, 0)}), incoherent, allowed)
	judged(t, "P6: Read ahead of Write", threads(code{load(0, 0), store(0, 1)}), allowed, incoherent)
	judged(t, "P6: Write ahead of Write", threads(code{store(2, 1), store(2, 2)}), allowed, incoherent)
	judged(t, "P6: Read ahead of Read", threads(code{store(0, 1)}, code{load(0, 0), load(0, 0)}), allowed, allowed, incoherent, allowed)
	judged(t, "P6: a Copy", threads(code{copyTo(1, 0), load(0, 1)}), incoherent, allowed)
	judged(t, "P6: Write ahead of Read, another between in the list", threads(code{store(0, 1)}, code{store(0, 2), load(0, 0)}),
		incoherent, incoherent, incoherent, allowed, allowed, allowed)
	judged(t, "P6: Read ahead of Write, from a Write behind that", threads(code{store(0, 1)}, code{load(0, 0), store(0, 2)}),
		allowed, allowed, allowed, incoherent, incoherent, incoherent)
	// the second thread sees the writes in one order, the list has the other
	judged(t, "P6: two Writes read in turn", threads(code{store(0, 1)}, code{store(0, 2)}, code{load(0, 0), load(0, 0)}),
		allowed, allowed, allowed, allowed, allowed, allowed,
		incoherent, incoherent, allowed, allowed, allowed, incoherent,
		incoherent, incoherent, incoherent, allowed, allowed, allowed)
}

// What is not of one location, or not of one thread, keeps no order by itself.
func TestCoherent(t *testing.T) {
	judged(t, "P6: two locations", threads(code{store(0, 1)}, code{load(0, 0), load(1, 1)}), allowed, allowed)
	judged(t, "P6: two locations, two writes", threads(code{store(0, 1), store(1, 1)}, code{load(0, 1), load(1, 0)}), allowed, allowed, allowed, allowed)
	judged(t, "P6: two threads store", threads(code{store(0, 1)}, code{store(0, 2)}), allowed, allowed)
	judged(t, "P6: two threads load", threads(code{store(0, 1)}, code{load(0, 0)}, code{load(0, 0)}), allowed, allowed, allowed, allowed)
	// the marks have Loc 0, but they are no Reads or Writes of location 0
	judged(t, "P6: marks and location 0", threads(code{store(0, 1), sync, store(0, 2)}, code{enter, load(0, 0), leave, load(0, 0)}),
		allowed, incoherent, allowed, incoherent, allowed, incoherent,
		incoherent, incoherent, allowed, incoherent, allowed, incoherent,
		incoherent, incoherent, incoherent, incoherent, allowed, incoherent)
}

func TestTorn(t *testing.T) {
	judged(t, "P7: two swaps", threads(code{swap(0, 0, 1)}, code{swap(0, 0, 2)}),
		torn, torn, allowed, incoherent, incoherent, incoherent,
		incoherent, incoherent, incoherent, incoherent, incoherent, incoherent,
		incoherent, allowed, incoherent, incoherent, incoherent, incoherent)
	judged(t, "P7: a swap and a store", threads(code{swap(0, 0, 1)}, code{store(0, 2)}), allowed, torn, incoherent, incoherent, incoherent, allowed)
	judged(t, "P7: a swap behind a store", threads(code{store(2, 1), swap(0, 2, 2)}), incoherent, incoherent, allowed, incoherent, incoherent, incoherent)
	judged(t, "P7: a swap from its own Write", threads(code{swap(0, 1, 1)}), allowed, incoherent)
	three := threads(code{swap(0, 0, 1)}, code{store(0, 2)}, code{store(0, 3)})
	judgedExec(t, "P7: the first of three", three, exec([]int{-1}, []int{1, 2, 3}, nil, nil), allowed)
	judgedExec(t, "P7: the second of three, from -1", three, exec([]int{-1}, []int{2, 1, 3}, nil, nil), torn)
	judgedExec(t, "P7: the last of three, from -1", three, exec([]int{-1}, []int{2, 3, 1}, nil, nil), torn)
	judgedExec(t, "P7: the last of three, from the first", three, exec([]int{2}, []int{2, 3, 1}, nil, nil), torn)
	judgedExec(t, "P7: the last of three, from the one ahead", three, exec([]int{3}, []int{2, 3, 1}, nil, nil), allowed)
	judgedExec(t, "P7: the second of three, from the one ahead", three, exec([]int{2}, []int{2, 1, 3}, nil, nil), allowed)
	// a Load and a Store of one thread are no Swap, though they write over what was read
	judged(t, "P7: a load and a store", threads(code{load(0, 0), store(0, 1)}, code{store(0, 2)}), allowed, allowed, incoherent, incoherent, incoherent, allowed)
	other := threads(code{swap(0, 0, 1), swap(1, 1, 1)}, code{store(1, 2)})
	judgedExec(t, "P7: the second swap", other, exec([]int{-1, -1}, []int{1}, []int{4, 3}, nil), torn)
	judgedExec(t, "P7: neither swap", other, exec([]int{-1, 4}, []int{1}, []int{4, 3}, nil), allowed)
}

// Where several are so, the one named first is the answer.
func TestFirstNamedIsTheAnswer(t *testing.T) {
	x := threads(code{store(0, 1), full, load(0, 1)}, code{store(1, 1), full, load(0, 0), swap(1, 2, 1)}, code{store(2, 2), load(0, 2)})
	// events: 0 Wx, 1 Ry, 2 Wy, 3 Rx, 4 Rz, 5 Wz, 6 Wz, 7 Rz
	order := func(z ...int) [][]int { return [][]int{{0}, {2}, z} }
	for _, c := range []struct {
		what  string
		from  []int
		order [][]int
		want  int
	}{
		{"none", []int{2, 0, -1, 6}, order(5, 6), allowed},
		{"Circular", []int{-1, -1, -1, 6}, order(5, 6), circular},
		{"Torn", []int{2, 0, -1, 6}, order(6, 5), torn},
		{"Torn and Circular", []int{-1, -1, -1, 6}, order(6, 5), torn},
		{"Incoherent", []int{2, 0, -1, -1}, order(5, 6), incoherent},
		{"Incoherent and Circular", []int{-1, -1, -1, -1}, order(5, 6), incoherent},
		{"Incoherent and Torn", []int{2, 0, -1, -1}, order(6, 5), incoherent},
		{"Incoherent, Torn and Circular", []int{-1, -1, -1, -1}, order(6, 5), incoherent},
	} {
		judgedExec(t, "P6: "+c.what, x, api.Exec{From: c.from, Order: c.order}, c.want)
	}
}

func TestJudgeOfExamples(t *testing.T) {
	judged(t, "two stores, two loads", threads(code{store(0, 1), load(0, 1)}, code{store(1, 1), load(0, 0)}), allowed, allowed, allowed, allowed)
	for _, c := range []struct{ mode, want int }{{api.Full, circular}, {api.Loads, allowed}, {api.Stores, allowed}} {
		f := fence(c.mode)
		judged(t, "two stores, two loads, fences", threads(code{store(0, 1), f, load(0, 1)}, code{store(1, 1), f, load(0, 0)}), c.want, allowed, allowed, allowed)
	}
	message := func(a api.Instr, b api.Instr) api.Test {
		return threads(code{store(0, 1), a}, code{b, load(1, 0)})
	}
	judged(t, "a message", message(store(1, 1), load(0, 1)), allowed, allowed, allowed, allowed)
	judged(t, "a message, Release", message(release(store(1, 1)), load(0, 1)), allowed, allowed, allowed, allowed)
	judged(t, "a message, Acquire", message(store(1, 1), acquire(load(0, 1))), allowed, allowed, allowed, allowed)
	judged(t, "a message, both", message(release(store(1, 1)), acquire(load(0, 1))), allowed, allowed, circular, allowed)
	judged(t, "what one wrote oneself", threads(code{store(0, 1), load(0, 0)}), incoherent, allowed)
	judged(t, "what one wrote oneself", threads(code{load(0, 0), store(0, 1)}), allowed, incoherent)
	swaps := threads(code{swap(0, 0, 1)}, code{swap(0, 0, 2)})
	judgedOne(t, "swaps", swaps, 0, torn)
	for n := 0; n < 18; n++ {
		c, _ := litmus.Candidate(swaps, n)
		if j, _ := litmus.Judge(swaps, c); (j == allowed) != (n == 2 || n == 13) {
			t.Errorf("swaps: Judge of candidate %d = %d", n, j)
		}
	}
	judged(t, "out of nothing", threads(code{load(0, 0), copyTo(1, 0)}, code{load(0, 1), copyTo(0, 0)}), allowed, allowed, allowed, circular)
	judged(t, "stores in place of copies", threads(code{load(0, 0), store(1, 1)}, code{load(0, 1), store(0, 1)}), allowed, allowed, allowed, allowed)
	judged(t, "a section", threads(code{enter, load(0, 0), load(1, 1), leave}, code{store(0, 1), sync, store(1, 1)}), allowed, spanning, allowed, allowed)
	judged(t, "no section", threads(code{load(0, 0), load(1, 1)}, code{store(0, 1), sync, store(1, 1)}), allowed, allowed, allowed, allowed)
	judged(t, "no Sync", threads(code{enter, load(0, 0), load(1, 1), leave}, code{store(0, 1), store(1, 1)}), allowed, allowed, allowed, allowed)
}
