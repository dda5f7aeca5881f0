package litmus_test

import (
	"testing"

	"litmus/api"
	"litmus/litmus"
)

// graph: arrows between events; what is written here follows the document word by word, slowly, and shares nothing with the program but Events.
type graph map[[2]int]bool

func (g graph) with(more ...[2]int) graph {
	all := graph{}
	for a := range g {
		all[a] = true
	}
	for _, a := range more {
		all[a] = true
	}
	return all
}

// hasCircle follows all ways from each event.
func (g graph) hasCircle() bool {
	next := map[int][]int{}
	for a := range g {
		next[a[0]] = append(next[a[0]], a[1])
	}
	for start := range next {
		seen := map[int]bool{}
		ways := append([]int{}, next[start]...)
		for len(ways) > 0 {
			at := ways[len(ways)-1]
			ways = ways[:len(ways)-1]
			if at == start {
				return true
			}
			if !seen[at] {
				seen[at] = true
				ways = append(ways, next[at]...)
			}
		}
	}
	return false
}

// trial: a test with an execution of it.
type trial struct {
	x      api.Test
	events []api.Event
	source map[int]int // by Read
	order  [][]int
}

func newTrial(x api.Test, events []api.Event, c api.Exec) trial {
	r := trial{x: x, events: events, source: map[int]int{}, order: c.Order}
	for i, e := range events {
		if e.Kind == api.Read {
			r.source[i] = c.From[len(r.source)]
		}
	}
	return r
}

func (r trial) instr(i int) api.Instr {
	return r.x.Threads[r.events[i].Thread][r.events[i].Place]
}

// behind tells the Writes that stand behind another one, or behind -1, in a location's list.
func (r trial) behind(write int, loc int) []int {
	if write == -1 {
		return r.order[loc]
	}
	for i, w := range r.order[loc] {
		if w == write {
			return r.order[loc][i+1:]
		}
	}
	return nil
}

func (r trial) executed() graph {
	g := graph{}
	for i, e := range r.events {
		after := i
		switch e.Kind {
		case api.Read:
			after = r.source[i]
			if after != -1 {
				g[[2]int{after, i}] = true
			}
		case api.Write:
		default:
			continue
		}
		for _, w := range r.behind(after, e.Loc) {
			g[[2]int{i, w}] = true
		}
	}
	return g
}

func (r trial) incoherent() bool {
	g := r.executed()
	for b, f := range r.events {
		for a, e := range r.events[:b] {
			if e.Thread == f.Thread && e.Kind <= api.Write && f.Kind <= api.Write && e.Loc == f.Loc {
				g[[2]int{a, b}] = true
			}
		}
	}
	return g.hasCircle()
}

func (r trial) torn() bool {
	for i := range r.events {
		if r.instr(i).Op == api.Swap && r.events[i].Kind == api.Read {
			if l := r.behind(r.source[i], r.events[i].Loc); len(l) == 0 || l[0] != i+1 {
				return true
			}
		}
	}
	return false
}

func (r trial) fenced(a int, b int) bool {
	e, f := r.events[a], r.events[b]
	for place := e.Place + 1; place < f.Place; place++ {
		i := r.x.Threads[e.Thread][place]
		if i == full || i == fence(api.Loads) && e.Kind == api.Read && f.Kind == api.Read || i == fence(api.Stores) && e.Kind == api.Write && f.Kind == api.Write {
			return true
		}
	}
	return false
}

// copied tells the Read whose value the Write of a Copy writes.
func (r trial) copied(b int) int {
	for a := b - 1; a >= 0 && r.events[a].Thread == r.events[b].Thread; a-- {
		if r.events[a].Kind == api.Read && r.instr(a).Reg == r.instr(b).Reg {
			return a
		}
	}
	return -1
}

func (r trial) keeps(a int, b int) bool {
	e, f, i, j := r.events[a], r.events[b], r.instr(a), r.instr(b)
	switch {
	case r.fenced(a, b):
		return true
	case (i.Op == api.Load || i.Op == api.Swap) && i.Mode == api.Acquire && e.Kind == api.Read:
		return true
	case (j.Op == api.Store || j.Op == api.Copy || j.Op == api.Swap) && j.Mode == api.Release && f.Kind == api.Write:
		return true
	case j.Op == api.Copy && r.copied(b) == a:
		return true
	case i.Op == api.Swap && e.Place == f.Place:
		return true
	case e.Kind == api.Begin, e.Kind == api.Start, e.Kind == api.Finish:
		return true
	case f.Kind == api.End, f.Kind == api.Start, f.Kind == api.Finish:
		return true
	}
	return false
}

func (r trial) kept() graph {
	g := r.executed()
	for b := range r.events {
		for a := range r.events[:b] {
			if r.events[a].Thread == r.events[b].Thread && r.keeps(a, b) {
				g[[2]int{a, b}] = true
			}
		}
	}
	return g
}

// choices tells, for each section and each Sync, the two arrows of which one is chosen.
func (r trial) choices() [][2][2]int {
	var l [][2][2]int
	for begin, e := range r.events {
		if e.Kind != api.Begin {
			continue
		}
		end := begin
		for r.events[end].Kind != api.End {
			end++
		}
		for start, f := range r.events {
			if f.Kind == api.Start {
				l = append(l, [2][2]int{{end, start + 1}, {start, begin}})
			}
		}
	}
	return l
}

func (r trial) spanning() bool {
	l := r.choices()
	kept := r.kept()
	for n := 0; n < 1<<len(l); n++ {
		var chosen [][2]int
		for i := range l {
			chosen = append(chosen, l[i][n>>i&1])
		}
		if !kept.with(chosen...).hasCircle() {
			return false
		}
	}
	return true
}

func (r trial) judge() int {
	switch {
	case r.incoherent():
		return incoherent
	case r.torn():
		return torn
	case r.kept().hasCircle():
		return circular
	case r.spanning():
		return spanning
	}
	return allowed
}

// sameJudge compares Judge of every so many candidates of a test, and tells how many of each answer there were.
func sameJudge(t *testing.T, x api.Test, step int) [5]int {
	t.Helper()
	var many [5]int
	events := eventsOf(x)
	size, _ := litmus.Size(x)
	for n := 0; n < size; n += step {
		c, _ := litmus.Candidate(x, n)
		want := newTrial(x, events, c).judge()
		if j, e := litmus.Judge(x, c); j != want || e != api.OK {
			t.Errorf("P6 to P9, P13: %v: Judge of %v = %d, %d, want %d", x.Threads, c, j, e, want)
		}
		many[want]++
	}
	return many
}

func TestJudgeOfSamples(t *testing.T) {
	for _, x := range samples() {
		size, _ := litmus.Size(x)
		sameJudge(t, x, 1+size/150)
	}
}

// numbers: a row of numbers that is the same each time.
type numbers uint64

func (n *numbers) below(many int) int {
	*n = *n*6364136223846793005 + 1442695040888963407
	return int(uint64(*n) >> 33 % uint64(many))
}

func (n *numbers) access() api.Instr {
	loc, reg, val := n.below(3), n.below(2), n.below(4)
	if n.below(3) > 0 {
		loc = loc % 2
	}
	switch n.below(9) {
	case 0, 1:
		return moded(store(loc, val), n.below(2)*api.Release)
	case 2, 3:
		return moded(copyTo(loc, reg), n.below(2)*api.Release)
	case 4:
		return moded(swap(reg, loc, val), n.below(3))
	case 5:
		return fence(n.below(3))
	}
	return moded(load(reg, loc), n.below(2)*api.Acquire)
}

func (n *numbers) thread(marks bool) code {
	var l code
	entered := false
	for many := n.below(6); many > 0; many-- {
		if !marks || n.below(3) > 0 {
			l = append(l, n.access())
			continue
		}
		switch {
		case entered:
			l = append(l, leave)
			entered = false
		case n.below(2) == 0:
			l = append(l, enter)
			entered = true
		default:
			l = append(l, sync)
		}
	}
	if entered {
		l = append(l, leave)
	}
	return l
}

func (n *numbers) test(marks bool) api.Test {
	var x api.Test
	for many := 1 + n.below(4); many > 0; many-- {
		x.Threads = append(x.Threads, n.thread(marks))
	}
	return x
}

// compareMany compares Judge for many tests that a row of numbers makes; each answer must be there so many times.
func compareMany(t *testing.T, row numbers, tests int, atLeast [5]int, next func(n *numbers) api.Test) {
	t.Helper()
	var many [5]int
	for i := 0; i < tests && !t.Failed(); i++ {
		x := next(&row)
		if size, e := litmus.Size(x); e == api.OK {
			for j, n := range sameJudge(t, x, 1+size/40) {
				many[j] += n
			}
		}
	}
	for j, n := range many {
		if n < atLeast[j] {
			t.Errorf("only %d executions of which Judge must be %d", n, j)
		}
	}
}

func TestJudgeOfManyTests(t *testing.T) {
	compareMany(t, 1, 1500, [5]int{1000, 1000, 50, 0, 0}, func(n *numbers) api.Test { return n.test(true) })
	compareMany(t, 2, 1500, [5]int{1000, 1000, 50, 0, 0}, func(n *numbers) api.Test { return n.test(false) })
	compareMany(t, 3, 6000, [5]int{1000, 1000, 50, 150, 0}, func(n *numbers) api.Test {
		return threads(code{n.some(), n.access(), n.some()}, code{n.some(), fence(n.below(3)), n.some()})
	})
}

// Sections and Syncs meet.
func TestJudgeOfManySections(t *testing.T) {
	compareMany(t, 4, 600, [5]int{1000, 1000, 0, 50, 200}, func(n *numbers) api.Test {
		return threads(n.inSection(), n.aroundSync(), n.inSection())
	})
	compareMany(t, 5, 400, [5]int{1000, 1000, 0, 50, 200}, func(n *numbers) api.Test {
		return threads(n.aroundSync(), n.inSection(), n.aroundSync(), n.inSection())
	})
}

// Up to three sections and two Syncs, in threads that make a ring.
func TestJudgeOfManyRings(t *testing.T) {
	compareMany(t, 6, 1500, [5]int{1000, 0, 0, 0, 150}, func(n *numbers) api.Test {
		x := threads(n.link(0, 1), n.link(1, 2), n.link(2, 0))
		if n.below(2) == 0 {
			x.Threads = append(x.Threads, n.marked(nil, nil))
		}
		return x
	})
}

// link tells a thread that stores to a location and loads from the next one, with marks around.
func (n *numbers) link(loc int, next int) code {
	a, b := store(loc, 1), load(0, next)
	if n.below(4) == 0 {
		a, b = b, a
	}
	return n.marked(code{a}, code{b})
}

// marked lays sections and Syncs around two parts of a thread.
func (n *numbers) marked(a code, b code) code {
	switch n.below(8) {
	case 0:
		return join(code{enter}, a, code{leave, sync}, b)
	case 1:
		return join(a, code{sync, enter}, b, code{leave})
	case 2:
		return join(a, code{sync, sync}, b)
	case 3:
		return join(a, code{sync}, b)
	case 4:
		return join(a, code{enter, leave}, b)
	case 5:
		return join(code{enter}, a, code{leave, enter}, b, code{leave})
	}
	return join(code{enter}, a, b, code{leave})
}

// some tells a Load or a Store, seldom with a mode.
func (n *numbers) some() api.Instr {
	moding := 1 / (1 + n.below(4))
	if n.below(2) == 0 {
		return moded(store(n.below(3), 1), moding*api.Release)
	}
	return moded(load(n.below(2), n.below(3)), moding*api.Acquire)
}

func (n *numbers) inSection() code {
	l := code{n.some(), n.some(), n.some()}
	begin := n.below(3)
	end := begin + n.below(4-begin)
	return join(l[:begin], code{enter}, l[begin:end], code{leave}, l[end:])
}

func (n *numbers) aroundSync() code {
	if n.below(4) == 0 {
		return code{n.some(), sync, n.access(), n.some()}
	}
	return code{n.some(), sync, n.some()}
}
