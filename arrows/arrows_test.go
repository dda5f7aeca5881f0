package arrows

import "testing"

func of(many int, l ...[2]int) Set {
	s := New(many)
	for _, a := range l {
		s.Add(a[0], a[1])
	}
	return s
}

func TestHasCircle(t *testing.T) {
	for _, c := range []struct {
		what string
		s    Set
		want bool
	}{
		{"nothing", of(0), false},
		{"the zero set", Set{}, false},
		{"no arrows", of(3), false},
		{"a chain", of(4, [2]int{3, 2}, [2]int{2, 1}, [2]int{1, 0}), false},
		{"two ways to one event", of(4, [2]int{0, 1}, [2]int{0, 2}, [2]int{1, 3}, [2]int{2, 3}, [2]int{0, 3}), false},
		{"one arrow twice", of(2, [2]int{0, 1}, [2]int{0, 1}), false},
		{"there and back", of(2, [2]int{0, 1}, [2]int{1, 0}), true},
		{"to itself", of(3, [2]int{1, 1}), true},
		{"all in a ring", of(4, [2]int{0, 2}, [2]int{2, 1}, [2]int{1, 3}, [2]int{3, 0}), true},
		{"a ring with a way to it and from it", of(5, [2]int{0, 1}, [2]int{1, 2}, [2]int{2, 3}, [2]int{3, 1}, [2]int{3, 4}), true},
		{"a ring apart", of(5, [2]int{0, 1}, [2]int{3, 4}, [2]int{4, 3}), true},
		{"numbers that are no events", of(2, [2]int{0, 1}, [2]int{1, -1}, [2]int{-1, 0}, [2]int{1, 2}, [2]int{2, 0}, [2]int{1 << 62, 1 << 62}), false},
		{"less than nothing", of(-1, [2]int{0, 0}), false},
	} {
		if got := c.s.HasCircle(); got != c.want {
			t.Errorf("%s: %v, want %v", c.what, got, c.want)
		}
	}
}

func TestWithLeavesTheFirstAsItIs(t *testing.T) {
	s := of(3, [2]int{0, 1}, [2]int{1, 2})
	more := s.With(2, 0)
	if !more.HasCircle() {
		t.Error("the arrow is not there, or those of the first set are not")
	}
	if s.HasCircle() {
		t.Error("the first set has changed")
	}
	more.Add(1, 0)
	if s.HasCircle() {
		t.Error("the two sets share memory")
	}
}
