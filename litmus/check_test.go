package litmus_test

import (
	"testing"

	"litmus/api"
	"litmus/litmus"
)

func checked(t *testing.T, name string, x api.Test, want api.Errno, place int) {
	t.Helper()
	if e, at := litmus.Check(x); e != want || at != place {
		t.Errorf("P3: %s: Check = %d, %d, want %d, %d", name, e, at, want, place)
	}
}

func TestCheckSize(t *testing.T) {
	checked(t, "no threads", api.Test{}, api.ErrSize, 0)
	checked(t, "no threads, but a list", threads(), api.ErrSize, 0)
	checked(t, "an empty thread", threads(nil), api.OK, 0)
	checked(t, "4 threads", threads(nil, nil, nil, nil), api.OK, 0)
	checked(t, "5 threads", threads(nil, nil, nil, nil, nil), api.ErrSize, 0)
	checked(t, "very many threads", threads(make([]code, 100000)...), api.ErrSize, 0)
	for thread := 0; thread < api.MaxThreads; thread++ {
		l := make([]code, api.MaxThreads)
		l[thread] = times(12, full)
		checked(t, "12 instructions", threads(l...), api.OK, 0)
		l[thread] = times(13, full)
		checked(t, "13 instructions", threads(l...), api.ErrSize, 0)
	}
	checked(t, "very many instructions", threads(make(code, 100000)), api.ErrSize, 0)
	checked(t, "6 atoms", asking(threads(nil), make([]api.Atom, 6)...), api.OK, 0)
	checked(t, "7 atoms", asking(threads(nil), make([]api.Atom, 7)...), api.ErrSize, 0)
	forall := asking(threads(nil), make([]api.Atom, 7)...)
	forall.Forall = true
	checked(t, "7 atoms, with Forall", forall, api.ErrSize, 0)
}

// takes tells in words of P3 whether an instruction may be; it is written as a table so as to be told another way than in the program.
func takes(x api.Instr) bool {
	for _, r := range []struct {
		op, locs, regs, vals int
		modes                []int
	}{
		{0, 3, 1, 4, []int{0, 2}},
		{1, 3, 3, 1, []int{0, 2}},
		{2, 3, 3, 1, []int{0, 1}},
		{3, 3, 3, 4, []int{0, 1, 2}},
		{4, 1, 1, 1, []int{0, 1, 2}},
		{5, 1, 1, 1, []int{0}},
		{6, 1, 1, 1, []int{0}},
		{7, 1, 1, 1, []int{0}},
	} {
		if r.op != x.Op {
			continue
		}
		for _, mode := range r.modes {
			if mode == x.Mode {
				return x.Loc >= 0 && x.Loc < r.locs && x.Reg >= 0 && x.Reg < r.regs && x.Val >= 0 && x.Val < r.vals
			}
		}
	}
	return false
}

// around: a thread in which an instruction stands third and nests well, if it may be.
func around(x api.Instr) code {
	switch x.Op {
	case api.Enter:
		return code{full, full, x, leave}
	case api.Leave:
		return code{full, enter, x, full}
	}
	return code{full, full, x, full}
}

func TestCheckEveryInstr(t *testing.T) {
	numbers := []int{least, -2, -1, 0, 1, 2, 3, 4, 5, most}
	tried := 0
	for _, op := range []int{least, -1, 0, 1, 2, 3, 4, 5, 6, 7, 8, most} {
		for _, loc := range numbers {
			for _, reg := range numbers {
				for _, val := range numbers {
					for _, mode := range numbers {
						x := api.Instr{Op: op, Loc: loc, Reg: reg, Val: val, Mode: mode}
						want, place := api.OK, 0
						if !takes(x) {
							want, place = api.ErrInstr, 202
						}
						e, at := litmus.Check(threads(nil, code{full}, around(x)))
						if e != want || at != place {
							t.Fatalf("P3: the instruction %+v: Check = %d, %d, want %d, %d", x, e, at, want, place)
						}
						tried++
					}
				}
			}
		}
	}
	if tried != 120000 {
		t.Errorf("%d instructions were tried", tried)
	}
}

func TestCheckInstrPlace(t *testing.T) {
	checked(t, "the first of a thread", threads(code{full, wrong, wrong}), api.ErrInstr, 1)
	checked(t, "the first thread that has such", threads(code{full}, code{full, full, wrong}, code{wrong}), api.ErrInstr, 102)
	for thread := 0; thread < api.MaxThreads; thread++ {
		for place := 0; place < api.MaxInstrs; place++ {
			l := []code{times(12, full), times(12, full), times(12, full), times(12, full)}
			l[thread][place] = wrong
			checked(t, "a wrong instruction", threads(l...), api.ErrInstr, 100*thread+place)
		}
	}
}

func TestCheckNest(t *testing.T) {
	for _, c := range []struct {
		name  string
		code  code
		place int // -1: well nested
	}{
		{"nothing", nil, -1},
		{"a section", code{enter, leave}, -1},
		{"two sections with a sync between", code{enter, leave, sync, enter, leave}, -1},
		{"syncs around a section", code{sync, enter, full, leave, sync}, -1},
		{"a leave at first", code{leave}, 0},
		{"a leave behind a leave", code{enter, leave, leave}, 2},
		{"a leave behind a sync", code{sync, leave}, 1},
		{"an enter where something is entered", code{enter, full, enter, leave, leave}, 2},
		{"a sync where something is entered", code{enter, sync, leave}, 1},
		{"something entered at the end", code{enter, load(0, 0)}, 2},
		{"an enter alone", code{enter}, 1},
		{"entered once more at the end", code{enter, leave, full, enter}, 4},
		{"an enter at the very end of a full thread", join(times(11, full), code{enter}), 12},
		{"an enter where something is entered, none left", code{enter, enter}, 1},
		{"a leave ahead of an open enter", code{leave, enter}, 0},
		{"a sync and then an enter, both wrong", code{enter, full, sync, enter}, 2},
		{"an enter and then a sync, both wrong", code{enter, full, enter, sync}, 2},
		{"a leave and then a sync, both wrong", code{full, leave, enter, sync}, 1},
	} {
		for thread := 0; thread < api.MaxThreads; thread++ {
			l := make([]code, api.MaxThreads)
			l[thread] = c.code
			want, place := api.OK, 0
			if c.place >= 0 {
				want, place = api.ErrNest, 100*thread+c.place
			}
			checked(t, c.name, threads(l...), want, place)
		}
	}
	checked(t, "the end of the first thread ahead of the second", threads(code{enter}, code{leave}), api.ErrNest, 1)
	checked(t, "an Enter is not left by another thread", threads(nil, code{enter}, code{leave}), api.ErrNest, 101)
}

func TestCheckCond(t *testing.T) {
	two := threads(code{store(0, 1)}, nil)
	for _, thread := range extremes {
		for _, at := range extremes {
			for _, val := range extremes {
				// A thread has as many registers as there are locations, so that one limit serves for both.
				mayBe := thread >= -1 && thread < 2 && at >= 0 && at < 3 && val >= 0 && val <= 3
				atom := api.Atom{Thread: thread, At: at, Val: val}
				want, place := api.OK, 0
				if !mayBe {
					want, place = api.ErrCond, 2
				}
				if e, p := litmus.Check(asking(two, api.Atom{}, api.Atom{Thread: -1}, atom)); e != want || p != place {
					t.Fatalf("P3: the atom %+v: Check = %d, %d, want %d, %d", atom, e, p, want, place)
				}
			}
		}
	}
	last := api.Atom{Thread: 3, At: 2, Val: 3}
	checked(t, "the last thread", asking(threads(nil, nil, nil, nil), last), api.OK, 0)
	checked(t, "one thread too few", asking(threads(nil, nil, nil), last), api.ErrCond, 0)
	checked(t, "the first wrong atom", asking(two, api.Atom{}, api.Atom{Val: 4}, api.Atom{At: 3}), api.ErrCond, 1)
	checked(t, "the last atom", asking(two, api.Atom{}, api.Atom{}, api.Atom{}, api.Atom{}, api.Atom{}, api.Atom{Thread: -2}), api.ErrCond, 5)
}

func TestCheckMany(t *testing.T) {
	checked(t, "3 sections in a thread", threads(times(3, enter, leave)), api.OK, 0)
	checked(t, "4 sections in a thread", threads(times(4, enter, leave)), api.ErrMany, 0)
	checked(t, "3 sections in threads", threads(code{enter, leave}, code{enter, leave}, code{enter, leave}), api.OK, 0)
	checked(t, "4 sections in threads", threads(code{enter, leave}, code{enter, leave}, code{enter, leave}, code{enter, leave}), api.ErrMany, 0)
	checked(t, "2 syncs in a thread", threads(nil, code{sync, sync}), api.OK, 0)
	checked(t, "3 syncs in a thread", threads(nil, code{sync, sync, sync}), api.ErrMany, 0)
	checked(t, "3 syncs in threads", threads(code{sync}, code{sync}, code{sync}), api.ErrMany, 0)
	checked(t, "3 sections and 2 syncs", threads(times(3, enter, leave), code{sync, sync}), api.OK, 0)
	checked(t, "720 candidates", threads(times(6, store(0, 1))), api.OK, 0)
	checked(t, "5040 candidates", threads(times(7, store(0, 1))), api.ErrMany, 0)
	checked(t, "1024 candidates", threads(times(10, load(0, 0)), code{store(0, 1)}), api.OK, 0)
	// No test has from 1945 to 2047 candidates.
	checked(t, "1944 candidates", threads(code{store(0, 1), store(0, 1), store(1, 1), store(1, 1), store(2, 1)}, join(times(5, load(0, 0)), code{load(0, 2)})), api.OK, 0)
	checked(t, "2048 candidates", threads(times(11, load(0, 0)), code{store(0, 1)}), api.ErrMany, 0)
	checked(t, "2592 candidates", threads(code{store(0, 1), store(0, 1), store(1, 1), store(1, 1)}, times(4, load(0, 0)), code{store(2, 1), load(0, 2), load(0, 2), load(0, 2)}), api.ErrMany, 0)
	checked(t, "reads of nothing written", threads(times(12, load(0, 0)), times(12, load(0, 0)), times(12, load(0, 0)), times(12, load(0, 0))), api.OK, 0)
}

// The true numbers of candidates here are beyond 64 bits; some are 0 modulo 2 to the power of 64.
func TestCheckVeryMany(t *testing.T) {
	checked(t, "34 factors of 2", threads(times(12, load(0, 0)), times(12, load(0, 1)), join(times(10, load(0, 2)), code{store(0, 1), store(1, 1)}), code{store(2, 1)}), api.ErrMany, 0)
	for loc := 0; loc < api.MaxLocs; loc++ {
		stores, loads, swaps := times(12, store(loc, 0)), times(12, load(0, loc)), times(12, swap(0, loc, 1))
		checked(t, "12 stores", threads(stores), api.ErrMany, 0)
		checked(t, "48 stores", threads(stores, stores, stores, stores), api.ErrMany, 0)
		checked(t, "48 swaps", threads(swaps, swaps, swaps, swaps), api.ErrMany, 0)
		checked(t, "36 loads of 12 stores", threads(loads, loads, loads, stores), api.ErrMany, 0)
		for n := 1; n <= 12; n++ {
			few := times(n, store(loc, 0))
			checked(t, "36 loads of few stores", threads(loads, loads, loads, few), api.ErrMany, 0)
		}
	}
}

func TestCheckWhichError(t *testing.T) {
	open, badAtom, three := code{enter}, api.Atom{Val: 9}, times(3, sync)
	long := times(13, full)
	checked(t, "size ahead of instruction", threads(code{wrong}, long), api.ErrSize, 0)
	checked(t, "size ahead of nest", threads(open, long), api.ErrSize, 0)
	checked(t, "size ahead of all", asking(threads(code{wrong}, open, three), make([]api.Atom, 7)...), api.ErrSize, 0)
	checked(t, "too long and wrong", threads(times(13, wrong)), api.ErrSize, 0)
	checked(t, "instruction ahead of nest", threads(open, code{leave}, code{full, wrong}), api.ErrInstr, 201)
	checked(t, "instruction behind a wrong nest", threads(code{leave, wrong}), api.ErrInstr, 1)
	checked(t, "instruction ahead of condition", asking(threads(code{wrong}), badAtom), api.ErrInstr, 0)
	checked(t, "instruction ahead of many", threads(three, code{wrong}), api.ErrInstr, 100)
	checked(t, "a wrong Enter is no Enter", threads(code{{Op: api.Enter, Val: 1}, enter}), api.ErrInstr, 0)
	checked(t, "nest ahead of condition", asking(threads(open), badAtom), api.ErrNest, 1)
	checked(t, "nest ahead of many", threads(three, times(12, store(0, 0)), open), api.ErrNest, 201)
	checked(t, "condition ahead of syncs", asking(threads(three), api.Atom{}, badAtom), api.ErrCond, 1)
	checked(t, "condition ahead of sections", asking(threads(times(4, enter, leave)), badAtom), api.ErrCond, 0)
	checked(t, "condition ahead of candidates", asking(threads(times(7, store(0, 1))), badAtom), api.ErrCond, 0)
}
