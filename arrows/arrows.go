// Package arrows: arrows that lead from event to event, and whether a way along them comes back to where it began.
package arrows

// Set: arrows between so many events, numbered from 0 on. leads: event by event, whether an arrow leads from it to each one.
type Set struct {
	many  int
	leads []bool
}

// New makes a set without arrows.
func New(many int) Set {
	if many < 0 {
		return Set{}
	}
	return Set{many: many, leads: make([]bool, many*many)}
}

// Add adds an arrow. Between numbers that are no events there is none.
func (s *Set) Add(from int, to int) {
	if from >= 0 && from < s.many && to >= 0 && to < s.many {
		s.leads[from*s.many+to] = true
	}
}

// With makes a set that has one more arrow.
func (s *Set) With(from int, to int) Set {
	more := New(s.many)
	copy(more.leads, s.leads)
	more.Add(from, to)
	return more
}

// HasCircle tells whether there is a circle. An event into which no arrow leads is on none, so that its arrows may be left out; if by and by all events go that way, there is no circle, and else there is one among those that are left.
func (s *Set) HasCircle() bool {
	into := s.countInto()
	var free []int
	for event, count := range into {
		if count == 0 {
			free = append(free, event)
		}
	}
	for done := 0; done < len(free); done++ {
		for to := 0; to < s.many; to++ {
			if !s.leads[free[done]*s.many+to] {
				continue
			}
			into[to]--
			if into[to] == 0 {
				free = append(free, to)
			}
		}
	}
	return len(free) < s.many
}

// countInto tells of each event how many arrows lead into it.
func (s *Set) countInto() []int {
	into := make([]int, s.many)
	for from := 0; from < s.many; from++ {
		for to := 0; to < s.many; to++ {
			if s.leads[from*s.many+to] {
				into[to]++
			}
		}
	}
	return into
}
