package candidates

import (
	"testing"

	"litmus/api"
)

func many(event api.Event, n int) []api.Event {
	var l []api.Event
	for ; n > 0; n-- {
		l = append(l, event)
	}
	return l
}

func TestCountStopsAtTheLimit(t *testing.T) {
	write, read := api.Event{Kind: api.Write}, api.Event{Kind: api.Read}
	for n := 7; n <= 96; n++ {
		if size := Count(many(write, n)); size != api.MaxCandidates+1 {
			t.Errorf("P5: Count of %d Writes = %d", n, size)
		}
		all := append(many(read, n), many(write, 3)...)
		if size := Count(all); size != api.MaxCandidates+1 {
			t.Errorf("P5: Count of %d Reads = %d", n, size)
		}
	}
}

func TestNthOfTooMany(t *testing.T) {
	l := many(api.Event{Kind: api.Write}, 7)
	for _, n := range []int{-1, 0, 1, 2000, 2001, 5039} {
		if x, e := Nth(l, n); e != api.ErrArg || x.From != nil || x.Order != nil {
			t.Errorf("P5: Nth(%d) = %v, %d, want ErrArg", n, x, e)
		}
	}
}
