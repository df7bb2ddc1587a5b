package order

import (
	"stockade/api"
	"stockade/clock"
)

// seen is of each goroutine how many of its events are known. As the events of one goroutine are ahead of one another, they are its first ones, and a count tells which.
type seen [api.MaxGo]int

func (s *seen) join(other seen) {
	for g, n := range other {
		s[g] = max(s[g], n)
	}
}

// of is the newest event of a goroutine that is known.
func (s *seen) of(g int) clock.Epoch {
	return clock.Of(s[:], g)
}

// holds tells whether an event is known.
func (s *seen) holds(e clock.Epoch) bool {
	return e.AtMost(s[:])
}
