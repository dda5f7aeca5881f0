package litmus_test

import (
	"litmus/api"
	"litmus/litmus"
)

type code = []api.Instr

const (
	most  = 1<<63 - 1
	least = -1 << 63
)

// extremes: numbers at the edges of an int and of the limits of package api.
var extremes = []int{least, least + 1, -1 << 32, -100, -2, -1, 0, 1, 2, 3, 4, 5, 6, 7, 8, 99, 100, 1999, 2000, 2001, 1 << 31, 1 << 32, most - 1, most}

func store(loc int, val int) api.Instr { return api.Instr{Op: api.Store, Loc: loc, Val: val} }

func copyTo(loc int, reg int) api.Instr { return api.Instr{Op: api.Copy, Loc: loc, Reg: reg} }

func load(reg int, loc int) api.Instr { return api.Instr{Op: api.Load, Loc: loc, Reg: reg} }

func swap(reg int, loc int, val int) api.Instr {
	return api.Instr{Op: api.Swap, Loc: loc, Reg: reg, Val: val}
}

func fence(mode int) api.Instr { return api.Instr{Op: api.Fence, Mode: mode} }

func mark(op int) api.Instr { return api.Instr{Op: op} }

var (
	enter = mark(api.Enter)
	leave = mark(api.Leave)
	sync  = mark(api.Sync)
	full  = fence(api.Full)
	wrong = api.Instr{Op: 8}
)

func threads(l ...code) api.Test { return api.Test{Threads: l} }

// asking gives a test a condition.
func asking(t api.Test, l ...api.Atom) api.Test {
	t.Cond = l
	return t
}

func times(n int, l ...api.Instr) code {
	var all code
	for ; n > 0; n-- {
		all = append(all, l...)
	}
	return all
}

func join(l ...code) code {
	var all code
	for _, c := range l {
		all = append(all, c...)
	}
	return all
}

// samples: tests that may be, of all operations, with few and with many candidates.
func samples() []api.Test {
	return []api.Test{
		threads(nil),
		threads(code{full}, nil, code{fence(api.Loads), fence(api.Stores)}),
		threads(times(12, full), times(12, load(2, 2)), times(12, load(1, 0)), times(12, load(0, 1))),
		threads(code{store(0, 1), load(0, 1)}, code{store(1, 1), load(0, 0)}),
		threads(code{store(0, 1), load(0, 0)}),
		threads(code{load(0, 0), store(0, 1)}),
		threads(code{swap(0, 0, 1)}, code{swap(0, 0, 2)}),
		threads(code{swap(0, 2, 1), load(1, 2)}, code{copyTo(2, 1)}),
		threads(code{load(0, 0), copyTo(1, 0)}, code{load(0, 1), copyTo(0, 0)}),
		threads(code{enter, load(0, 0), load(1, 1), leave}, code{store(0, 1), sync, store(1, 1)}),
		threads(code{enter, load(0, 0), leave, enter, load(1, 1), leave}, code{store(0, 1), sync, store(1, 1)}, code{enter, load(0, 1), load(1, 0), leave, sync}),
		threads(code{store(2, 1), store(0, 2), load(0, 0)}, code{store(0, 1), load(0, 2)}, code{store(2, 2), store(1, 3)}, code{load(0, 1)}),
		threads(code{load(0, 2), load(0, 1), load(0, 0)}, code{store(0, 1), store(1, 1), store(2, 1)}, code{store(2, 2), store(1, 2)}),
		threads(times(10, load(0, 1)), code{store(1, 1)}),
		threads(times(6, store(2, 3))),
		threads(code{store(0, 1), store(0, 1), store(1, 1), store(1, 1), store(2, 1)}, join(times(5, load(0, 0)), code{load(0, 2)})),
		threads(code{load(0, 0), load(0, 0), load(0, 0)}, times(3, store(0, 0))),
		threads(code{swap(0, 1, 1), swap(1, 1, 2), swap(2, 1, 3)}),
	}
}

// eventsOf tells the events of a test that may be.
func eventsOf(x api.Test) []api.Event {
	l, e := litmus.Events(x)
	if e != api.OK {
		panic("a test that may not be")
	}
	return l
}
