package litmus_test

import (
	"fmt"
	"sort"
	"testing"

	"litmus/api"
	"litmus/litmus"
)

// value tells what a Read has read or a Write has written, word by word after the document.
func (r trial) value(i int) int {
	switch {
	case i == -1:
		return 0
	case r.events[i].Kind == api.Read:
		return r.value(r.source[i])
	case r.instr(i).Op == api.Copy:
		return r.value(r.copied(i))
	}
	return r.instr(i).Val
}

// held tells registers and locations by their names.
func (r trial) held() map[api.Atom]int {
	all := map[api.Atom]int{}
	for i, e := range r.events {
		if e.Kind == api.Read {
			// a later Read into the same register takes its place
			all[api.Atom{Thread: e.Thread, At: r.instr(i).Reg}] = r.value(i)
		}
	}
	for loc, l := range r.order {
		if len(l) > 0 {
			all[api.Atom{Thread: -1, At: loc}] = r.value(l[len(l)-1])
		}
	}
	return all
}

func (r trial) state() []int {
	held := r.held()
	var l []int
	for thread := range r.x.Threads {
		for reg := 0; reg < 3; reg++ {
			l = append(l, held[api.Atom{Thread: thread, At: reg}])
		}
	}
	for loc := 0; loc < 3; loc++ {
		l = append(l, held[api.Atom{Thread: -1, At: loc}])
	}
	return l
}

func (r trial) holds() bool {
	held := r.held()
	for _, a := range r.x.Cond {
		if held[api.Atom{Thread: a.Thread, At: a.At}] != a.Val {
			return false
		}
	}
	return true
}

// ends: what is to come out of a test.
type ends struct {
	many    map[string]int // by the state
	report  api.Report
	witness int
}

// judgements tells what Judge answers of each candidate.
func judgements(x api.Test) []int {
	var l []int
	size, _ := litmus.Size(x)
	for n := 0; n < size; n++ {
		c, _ := litmus.Candidate(x, n)
		j, _ := litmus.Judge(x, c)
		l = append(l, j)
	}
	return l
}

// endsOf goes through the candidates, of which it is told how they are to be judged, and compares State on the way.
func endsOf(t *testing.T, x api.Test, judgement []int) ends {
	t.Helper()
	all := ends{many: map[string]int{}, witness: -1}
	events := eventsOf(x)
	what := fmt.Sprint(x.Threads)
	for n, j := range judgement {
		c, _ := litmus.Candidate(x, n)
		if j != allowed {
			notStated(t, what, x, c, api.ErrForbidden)
			continue
		}
		r := newTrial(x, events, c)
		want := r.state()
		stated(t, what, x, c, want...)
		all.many[fmt.Sprint(want)]++
		holds := r.holds()
		if holds {
			all.report.Good++
		} else {
			all.report.Bad++
		}
		if holds != x.Forall && all.witness == -1 {
			all.witness = n
		}
	}
	return all
}

// outcomes tells the states as text: all numbers are of one digit, so that texts are sorted as the numbers are.
func (all ends) outcomes() []string {
	var l []string
	for s := range all.many {
		l = append(l, s)
	}
	sort.Strings(l)
	for i, s := range l {
		l[i] = fmt.Sprint("{", s, " ", all.many[s], "}")
	}
	return l
}

func (all ends) verdict(forall bool) api.Report {
	r := all.report
	r.Verdict = api.Sometimes
	if r.Bad == 0 {
		r.Verdict = api.Always
	}
	if r.Good == 0 {
		r.Verdict = api.Never
	}
	r.Holds = r.Good > 0 && !forall || r.Bad == 0 && forall
	return r
}

// sameEnds compares all that comes out of a test whose candidates are to be judged so, and tells its Verdict.
func sameEnds(t *testing.T, x api.Test, judgement []int) int {
	t.Helper()
	all := endsOf(t, x, judgement)
	if l, e := litmus.Outcomes(x); fmt.Sprint(l) != fmt.Sprint(all.outcomes()) || e != api.OK {
		t.Errorf("P11: %v: Outcomes = %v, %d, want %v", x.Threads, l, e, all.outcomes())
	}
	want := all.verdict(x.Forall)
	if r, e := litmus.Verdict(x); r != want || e != api.OK {
		t.Errorf("P12: %v: Verdict = %v, %d, want %v", x, r, e, want)
	}
	n, c, e := litmus.Witness(x)
	d, _ := litmus.Candidate(x, all.witness)
	if n != all.witness || e != api.OK || fmt.Sprint(c) != fmt.Sprint(d) {
		t.Errorf("P12: %v: Witness = %d, %v, %d, want %d, %v", x, n, c, e, all.witness, d)
	}
	return want.Verdict
}

func TestEndsOfSamples(t *testing.T) {
	for i, x := range append(samples(), asked(samples())...) {
		x.Forall = i%2 == 0
		sameEnds(t, x, judgements(x))
	}
}

// cond tells a few atoms, most of them of what is read or written, with values that are.
func (n *numbers) cond(x api.Test) []api.Atom {
	places := []api.Atom{{Thread: n.below(len(x.Threads)+1) - 1, At: n.below(3)}}
	values := []int{0, 0, n.below(4)}
	for thread, l := range x.Threads {
		for _, i := range l {
			switch i.Op {
			case api.Store, api.Copy:
				places = append(places, inLoc(i.Loc, 0))
				values = append(values, i.Val)
			case api.Load, api.Swap:
				places = append(places, inReg(thread, i.Reg, 0), inReg(thread, i.Reg, 0))
				values = append(values, i.Val)
			}
		}
	}
	var l []api.Atom
	for many := n.below(4); many > 0; many-- {
		a := places[n.below(len(places))]
		a.Val = values[n.below(len(values))]
		l = append(l, a)
	}
	return l
}

// compareEnds compares what comes out of many tests that a row of numbers makes; each Verdict must be there so many times.
func compareEnds(t *testing.T, row numbers, tests int, atLeast int, next func(n *numbers) api.Test) {
	t.Helper()
	var many [3]int
	for i := 0; i < tests && !t.Failed(); i++ {
		x := next(&row)
		x.Forall = row.below(2) == 1
		x.Cond = row.cond(x)
		if size, e := litmus.Size(x); e == api.OK && size <= 800 {
			many[sameEnds(t, x, judgements(x))]++
		}
	}
	for verdict, n := range many {
		if n < atLeast {
			t.Errorf("only %d tests of which Verdict must be %d", n, verdict)
		}
	}
}

func TestEndsOfManyTests(t *testing.T) {
	compareEnds(t, 11, 1500, 60, func(n *numbers) api.Test { return n.test(true) })
	compareEnds(t, 12, 1500, 60, func(n *numbers) api.Test { return n.test(false) })
}

// What is Spanning is told by the second, slow judge, so that nothing here stands on Judge.
func TestEndsOfManySections(t *testing.T) {
	row := numbers(15)
	var many [5]int
	for i := 0; i < 1000 && !t.Failed(); i++ {
		x := threads(row.inSection(), row.aroundSync())
		if i%2 == 0 {
			x.Threads = append(x.Threads, row.inSection())
		}
		x.Forall = row.below(2) == 1
		x.Cond = row.cond(x)
		size, e := litmus.Size(x)
		if e != api.OK || size > 100 {
			continue
		}
		want := slowJudgements(x)
		for _, j := range want {
			many[j]++
		}
		sameEnds(t, x, want)
	}
	if many[allowed] < 1000 || many[circular] < 100 || many[spanning] < 200 {
		t.Errorf("only so many executions of each kind: %v", many)
	}
}

// slowJudgements tells what Judge must answer of each candidate.
func slowJudgements(x api.Test) []int {
	var l []int
	events := eventsOf(x)
	size, _ := litmus.Size(x)
	for n := 0; n < size; n++ {
		c, _ := litmus.Candidate(x, n)
		l = append(l, newTrial(x, events, c).judge())
	}
	return l
}

// chain tells a thread that takes from a location and gives to another one, by turns.
func (n *numbers) chain() code {
	reg := n.below(2)
	l := code{load(reg, n.below(3)), copyTo(n.below(3), reg)}
	if n.below(3) == 0 {
		l = append(l, load(n.below(2), n.below(3)))
	}
	if n.below(4) == 0 {
		l[0] = swap(reg, l[0].Loc, n.below(4))
	}
	return l
}

// Values go from thread to thread.
func TestEndsOfManyCopies(t *testing.T) {
	compareEnds(t, 14, 400, 50, func(n *numbers) api.Test {
		return threads(n.chain(), code{store(n.below(3), 1+n.below(3))}, n.chain(), n.chain())
	})
}
