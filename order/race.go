package order

import (
	"cmp"
	"slices"

	"stockade/api"
)

// none is where an access stands that isn't there.
const none = -1

// spot is where in the trace a place's last accesses stand, by goroutine. Older ones of a goroutine don't matter: if one of them races with an event, the last one does too, and that is the one that is told.
type spot struct {
	reads, writes [api.MaxGo]int
	raced         bool
}

func newSpot() spot {
	s := spot{}
	for g := range api.MaxGo {
		s.reads[g], s.writes[g] = none, none
	}
	return s
}

// A finder looks for the races of a trace.
type finder struct {
	trace []api.Event
	past  []seen
	spots map[int]spot
}

// races are the races of all places, by rising places.
func races(trace []api.Event, past []seen) []api.Race {
	f := &finder{trace: trace, past: past, spots: map[int]spot{}}
	var out []api.Race
	for i, e := range trace {
		if !access(e) {
			continue
		}
		if first := f.take(i); first != none {
			out = append(out, race(trace[first], e))
		}
	}
	slices.SortFunc(out, func(a, b api.Race) int { return cmp.Compare(a.Place, b.Place) })
	return out
}

func access(e api.Event) bool {
	return e.Kind == api.EvRead || e.Kind == api.EvWrite
}

func race(first, second api.Event) api.Race {
	return api.Race{
		Place:   second.Obj,
		First:   first.At,
		Second:  second.At,
		FirstW:  first.Kind == api.EvWrite,
		SecondW: second.Kind == api.EvWrite,
	}
}

// take takes the access at a place of the trace: the earlier one with which it is its place's race, or none.
func (f *finder) take(at int) int {
	e := f.trace[at]
	s, known := f.spots[e.Obj]
	if !known {
		s = newSpot()
	}
	if s.raced {
		return none
	}
	first := f.first(s, at)
	s.raced = first != none
	if e.Kind == api.EvWrite {
		s.writes[e.G] = at
	} else {
		s.reads[e.G] = at
	}
	f.spots[e.Obj] = s
	return first
}

// first is of the earlier accesses that race with one the one that is told, or none.
func (f *finder) first(s spot, at int) int {
	last := none
	for _, w := range s.writes {
		if f.unknown(w, at) {
			last = max(last, w)
		}
	}
	if last != none || f.trace[at].Kind == api.EvRead {
		return last
	}
	for _, r := range s.reads {
		if f.unknown(r, at) {
			return r
		}
	}
	return none
}

// unknown tells whether there is an earlier access, and it doesn't happen before one; those of the same goroutine always do.
func (f *finder) unknown(earlier, at int) bool {
	return earlier != none && !f.past[at].holds(f.past[earlier].of(f.trace[earlier].G))
}
