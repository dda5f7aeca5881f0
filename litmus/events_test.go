package litmus_test

import (
	"fmt"
	"testing"

	"litmus/api"
	"litmus/litmus"
)

func TestEvents(t *testing.T) {
	for _, c := range []struct {
		name string
		x    api.Test
		want []api.Event
	}{
		{"an empty thread", threads(nil), nil},
		{"fences", threads(code{full, fence(api.Loads)}, nil, code{fence(api.Stores)}), nil},
		{"two stores, two loads", threads(code{store(0, 1), load(0, 1)}, code{store(1, 1), load(0, 0)}), []api.Event{
			{Thread: 0, Place: 0, Kind: api.Write, Loc: 0}, {Thread: 0, Place: 1, Kind: api.Read, Loc: 1},
			{Thread: 1, Place: 0, Kind: api.Write, Loc: 1}, {Thread: 1, Place: 1, Kind: api.Read, Loc: 0}}},
		{"swaps", threads(code{swap(0, 2, 1), full, swap(0, 1, 1)}), []api.Event{
			{Thread: 0, Place: 0, Kind: api.Read, Loc: 2}, {Thread: 0, Place: 0, Kind: api.Write, Loc: 2},
			{Thread: 0, Place: 2, Kind: api.Read, Loc: 1}, {Thread: 0, Place: 2, Kind: api.Write, Loc: 1}}},
		{"a section", threads(code{enter, load(0, 0), load(1, 1), leave}, code{store(0, 1), sync, copyTo(1, 0)}), []api.Event{
			{Thread: 0, Place: 0, Kind: api.Begin}, {Thread: 0, Place: 1, Kind: api.Read, Loc: 0},
			{Thread: 0, Place: 2, Kind: api.Read, Loc: 1}, {Thread: 0, Place: 3, Kind: api.End},
			{Thread: 1, Place: 0, Kind: api.Write, Loc: 0}, {Thread: 1, Place: 1, Kind: api.Start},
			{Thread: 1, Place: 1, Kind: api.Finish}, {Thread: 1, Place: 2, Kind: api.Write, Loc: 1}}},
		{"a place behind fences, of the last thread", threads(nil, nil, nil, append(times(11, full), load(2, 2))), []api.Event{
			{Thread: 3, Place: 11, Kind: api.Read, Loc: 2}}},
	} {
		l, e := litmus.Events(c.x)
		if e != api.OK || fmt.Sprint(l) != fmt.Sprint(c.want) {
			t.Errorf("P4: %s: Events = %v, %d, want %v", c.name, l, e, c.want)
		}
	}
}

func TestEventsOfModes(t *testing.T) {
	plain, _ := litmus.Events(threads(code{store(1, 1), copyTo(2, 1), load(1, 1), swap(0, 2, 3)}))
	x := threads(code{store(1, 1), copyTo(2, 1), load(1, 1), swap(0, 2, 3)})
	for i, mode := range []int{api.Release, api.Release, api.Acquire, api.Acquire} {
		x.Threads[0][i].Mode = mode
	}
	if l, e := litmus.Events(x); e != api.OK || fmt.Sprint(l) != fmt.Sprint(plain) {
		t.Errorf("P4: Events with modes = %v, %d, want %v", l, e, plain)
	}
}
