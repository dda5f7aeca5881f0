package litmus_test

import (
	"fmt"
	"testing"

	"litmus/api"
	"litmus/litmus"
)

// roomy copies a test into lists with spare room, which is filled.
func roomy(x api.Test) api.Test {
	y := api.Test{Forall: x.Forall}
	for _, l := range x.Threads {
		c := append(append(code{}, l...), times(8, api.Instr{Op: 70, Loc: 71, Reg: 72, Val: 73, Mode: 74})...)
		y.Threads = append(y.Threads, c[:len(l)])
	}
	n := len(y.Threads)
	y.Threads = append(y.Threads, code{wrong}, code{wrong})[:n]
	y.Cond = append(append([]api.Atom{}, x.Cond...), api.Atom{Val: 75}, api.Atom{Val: 76})[:len(x.Cond)]
	return y
}

// wholly tells a test with all the spare room of its lists.
func wholly(x api.Test) string {
	s := fmt.Sprint(x.Forall, len(x.Threads), len(x.Cond), x.Cond[:cap(x.Cond)])
	for _, l := range x.Threads[:cap(x.Threads)] {
		s += fmt.Sprint(len(l), l[:cap(l)])
	}
	return s
}

// roomyExec copies an execution into lists with spare room, which is filled.
func roomyExec(c api.Exec) api.Exec {
	room := func(l []int) []int { return append(append([]int{}, l...), 0, 1, 2, -1, 77)[:len(l)] }
	d := api.Exec{From: room(c.From)}
	for _, l := range c.Order {
		d.Order = append(d.Order, room(l))
	}
	d.Order = append(d.Order, []int{78}, []int{79})[:len(c.Order)]
	return d
}

// whollyExec tells an execution with all the spare room of its lists.
func whollyExec(c api.Exec) string {
	s := fmt.Sprint(len(c.From), c.From[:cap(c.From)], len(c.Order))
	for _, l := range c.Order[:cap(c.Order)] {
		s += fmt.Sprint(len(l), l[:cap(l)])
	}
	return s
}

// An execution that is handed in, be it one of the test or not, is as it was, and so is its spare room, and what stands there changes nothing.
func TestNoExecutionHandedInIsWritten(t *testing.T) {
	for _, x := range samples() {
		l := wildExecs()
		size, _ := litmus.Size(x)
		for n := 0; n < size; n += 1 + size/10 {
			c, _ := litmus.Candidate(x, n)
			l = append(l, c)
		}
		for _, c := range l {
			d := roomyExec(c)
			before := whollyExec(d)
			j, e := litmus.Judge(x, c)
			y := roomy(x)
			test := wholly(y)
			if j2, e2 := litmus.Judge(y, d); j2 != j || e2 != e {
				t.Errorf("P2: %v: Judge of %v = %d, %d; with spare room %d, %d", x.Threads, c, j, e, j2, e2)
			}
			l, e := litmus.State(x, c)
			if l2, e2 := litmus.State(y, d); fmt.Sprint(l2) != fmt.Sprint(l) || e2 != e {
				t.Errorf("P2: %v: State of %v = %v, %d; with spare room %v, %d", x.Threads, c, l, e, l2, e2)
			}
			if after := whollyExec(d); after != before {
				t.Errorf("P2: an execution has become\n%s, it was\n%s", after, before)
			}
			if after := wholly(y); after != test {
				t.Errorf("P2: a test has become\n%s, it was\n%s", after, test)
			}
		}
	}
}

func TestNothingHandedInIsWritten(t *testing.T) {
	l := append(samples(), asked(samples())...)
	l = append(l, asking(threads(code{load(0, 0)}), api.Atom{}, api.Atom{Thread: -1, At: 2}))
	l = append(l, threads(code{wrong}), threads(code{enter}), asking(threads(nil), api.Atom{Val: 9}), threads(times(7, store(0, 0))), threads(times(13, full)))
	for _, x := range l {
		y := roomy(x)
		before := wholly(y)
		for _, n := range []int{-1, 0, 1, 17, 719, most} {
			y.Forall = !y.Forall
			callAll(y, n, api.Exec{})
		}
		if after := wholly(y); after != before {
			t.Errorf("P2: a test has become\n%s, it was\n%s", after, before)
		}
	}
}

// answers tells all that the calls answer of a test whatever its condition is, as text.
func answers(x api.Test) string {
	e, at := litmus.Check(x)
	l, e2 := litmus.Events(x)
	n, e3 := litmus.Size(x)
	s := fmt.Sprint(e, at, l, e2, n, e3)
	for _, i := range []int{-1, 0, 1, n / 2, n - 1, n} {
		c, e := litmus.Candidate(x, i)
		j, e2 := litmus.Judge(x, c)
		l, e3 := litmus.State(x, c)
		s += fmt.Sprint(c, e, j, e2, l, e3)
	}
	o, e4 := litmus.Outcomes(x)
	return s + fmt.Sprint(o, e4)
}

// decisions tells what the calls answer of a test with its condition, with Forall and without.
func decisions(x api.Test) string {
	s := ""
	for _, forall := range []bool{false, true} {
		x.Forall = forall
		r, e := litmus.Verdict(x)
		n, c, e2 := litmus.Witness(x)
		s += fmt.Sprint(r, e, n, c, e2)
	}
	return s
}

// asked gives each test a condition that now holds, now does not.
func asked(l []api.Test) []api.Test {
	for i := range l {
		l[i].Cond = []api.Atom{{Thread: -1, At: i % 3, Val: i / 3 % 2}, {Thread: len(l[i].Threads) - 1}}
	}
	return l
}

// given: all lists that came out of some calls.
type given struct {
	events   [][]api.Event
	ints     [][]int
	orders   [][][]int
	outcomes [][]api.Outcome
}

func (g *given) exec(c api.Exec) {
	g.ints = append(append(g.ints, c.From), c.Order...)
	g.orders = append(g.orders, c.Order)
}

func (g *given) ask(x api.Test) {
	l, _ := litmus.Events(x)
	g.events = append(g.events, l)
	size, _ := litmus.Size(x)
	for _, n := range []int{0, 0, 1, size - 1} {
		c, _ := litmus.Candidate(x, n)
		l, _ := litmus.State(x, c)
		g.ints = append(g.ints, l)
		g.exec(c)
	}
	for _, forall := range []bool{false, true, true} {
		x.Forall = forall
		_, c, _ := litmus.Witness(x)
		g.exec(c)
		l, _ := litmus.Outcomes(x)
		g.outcomes = append(g.outcomes, l)
		for _, o := range l {
			g.ints = append(g.ints, o.State)
		}
	}
}

// fill writes into each list and its spare room the list's own number.
func (g *given) fill() {
	for k, l := range g.events {
		for i := range l[:cap(l)] {
			l[:cap(l)][i].Place = k + 1000
		}
	}
	for k, l := range g.ints {
		for i := range l[:cap(l)] {
			l[:cap(l)][i] = k + 1000
		}
	}
	for k, l := range g.orders {
		for i := range l[:cap(l)] {
			l[:cap(l)][i] = []int{k + 1000}
		}
	}
	for k, l := range g.outcomes {
		for i := range l[:cap(l)] {
			l[:cap(l)][i] = api.Outcome{State: []int{k + 1000}, Count: k + 1000}
		}
	}
}

// filled tells how many entries are written, and whether each still holds what fill has written there.
func (g *given) filled() (int, bool) {
	n, own := 0, true
	for k, l := range g.events {
		for _, e := range l[:cap(l)] {
			own = own && e.Place == k+1000
			n++
		}
	}
	for k, l := range g.ints {
		for _, e := range l[:cap(l)] {
			own = own && e == k+1000
			n++
		}
	}
	for k, l := range g.orders {
		for _, e := range l[:cap(l)] {
			own = own && len(e) == 1 && e[0] == k+1000
			n++
		}
	}
	for k, l := range g.outcomes {
		for _, o := range l[:cap(l)] {
			own = own && o.Count == k+1000 && len(o.State) == 1 && o.State[0] == k+1000
			n++
		}
	}
	return n, own
}

func TestWhatComesOutIsTheCallers(t *testing.T) {
	var before []string
	for _, x := range asked(samples()) {
		before = append(before, answers(x)+decisions(x))
	}
	var g given
	for _, x := range asked(samples()) {
		g.ask(x)
	}
	g.fill()
	if n, own := g.filled(); n < 100 || !own {
		t.Errorf("P2: lists share memory (%d entries)", n)
	}
	for i, x := range asked(samples()) {
		if after := answers(x) + decisions(x); after != before[i] {
			t.Errorf("P2: answers have become\n%s, they were\n%s", after, before[i])
		}
	}
	if _, own := g.filled(); !own {
		t.Errorf("P2: a later call has changed what came out earlier")
	}
}

func TestNothingHandedInIsKept(t *testing.T) {
	x := threads(code{store(0, 1), swap(0, 0, 2)}, code{load(0, 0), copyTo(1, 0)})
	x.Cond = []api.Atom{inReg(1, 0, 2), inLoc(1, 2)}
	same := answers(x) + decisions(x)
	y := roomy(x)
	// 0 W, 1 R, 2 W; 3 R, 4 W
	c := roomyExec(exec([]int{0, 2}, []int{0, 2}, []int{4}, nil))
	l, _ := litmus.Events(y)
	d, _ := litmus.Candidate(y, 7)
	held, e := litmus.State(y, c)
	o, _ := litmus.Outcomes(y)
	_, w, _ := litmus.Witness(y)
	before := fmt.Sprint(l, d, held, o, w)
	if e != api.OK || len(o) != 3 || len(w.From) != 2 {
		t.Fatalf("P10 to P12: %s, %d", before, e)
	}
	spoil(y, c)
	if after := fmt.Sprint(l, d, held, o, w); after != before {
		t.Errorf("P2: what came out has become %s, it was %s", after, before)
	}
	if again := answers(x) + decisions(x); again != same {
		t.Errorf("P2: answers have become %s, they were %s", again, same)
	}
}

// spoil overwrites all lists of a test and of an execution, with their spare room.
func spoil(x api.Test, c api.Exec) {
	for _, instrs := range x.Threads {
		for i := range instrs[:cap(instrs)] {
			instrs[:cap(instrs)][i] = load(2, 2)
		}
	}
	for i := range x.Cond[:cap(x.Cond)] {
		x.Cond[:cap(x.Cond)][i] = inLoc(2, 3)
	}
	for _, l := range append(c.Order, c.From) {
		for i := range l[:cap(l)] {
			l[:cap(l)][i] = 99
		}
	}
}

// An execution that is overwritten after Judge and State have seen it changes no later answer.
func TestNoExecutionHandedInIsKept(t *testing.T) {
	swaps := threads(code{swap(0, 0, 1)}, code{swap(0, 0, 2)})
	section := threads(look(), publish())
	for round := 0; round < 2; round++ {
		for n, want := range []int{torn, torn, allowed, incoherent} {
			judgedAndSpoilt(t, swaps, n, want)
		}
		for n, want := range []int{allowed, spanning, allowed, allowed} {
			judgedAndSpoilt(t, section, n, want)
		}
	}
}

// judgedAndSpoilt compares Judge and State of a candidate, and then of the same lists with other entries.
func judgedAndSpoilt(t *testing.T, x api.Test, n int, want int) {
	t.Helper()
	c, _ := litmus.Candidate(x, n)
	if j, e := litmus.Judge(x, c); j != want || e != api.OK {
		t.Errorf("P2: Judge of candidate %d = %d, %d, want %d", n, j, e, want)
	}
	if l, e := litmus.State(x, c); (e == api.OK) != (want == allowed) {
		t.Errorf("P2: State of candidate %d = %v, %d", n, l, e)
	}
	for i := range c.From {
		c.From[i] = 99
	}
	c.Order[0][0] = 99
	c.Order[2] = []int{99}
	if j, e := litmus.Judge(x, c); j != 0 || e != api.ErrExec {
		t.Errorf("P2: Judge of an overwritten candidate = %d, %d, want ErrExec", j, e)
	}
	if l, e := litmus.State(x, c); l != nil || e != api.ErrExec {
		t.Errorf("P2: State of an overwritten candidate = %v, %d, want ErrExec", l, e)
	}
}

// What a call answers must not hang on the calls ahead of it, be it of other tests.
func TestAnswersDependOnArgumentsAlone(t *testing.T) {
	l := asked(samples())
	first := make([]string, len(l))
	second := make([]string, len(l))
	for i := range l {
		first[i] = answers(l[i])
		second[i] = decisions(l[i])
	}
	for i := len(l) - 1; i >= 0; i-- {
		litmus.Check(threads(code{wrong}))
		y := roomy(l[i])
		if s := decisions(y); s != second[i] {
			t.Errorf("P2: answers are %s, they were %s", s, second[i])
		}
		y.Forall = true
		y.Cond = []api.Atom{{Thread: -1, At: 1, Val: 1}}
		if s := answers(y); s != first[i] {
			t.Errorf("P2: answers are %s, they were %s", s, first[i])
		}
	}
}
