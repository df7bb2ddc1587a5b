package detect_test

import (
	"slices"
	"testing"

	"stockade/api"
	"stockade/detect"
	"stockade/pool"
)

// The model: the chapter's words on what is taken and what needs pages, asked anew of all events that were taken, each time.

// shelf is an arena's pages: of each one which run it is in, 0 if it is free.
type shelf struct {
	pages []int
	runs  int
}

// put makes a run of the lowest free pages in a row: which one it is; 0, if there are none.
func (s *shelf) put(size int) int {
	for i := range len(s.pages) - size + 1 {
		if slices.Max(s.pages[i:i+size]) == 0 {
			s.runs++
			for k := range size {
				s.pages[i+k] = s.runs
			}
			return s.runs
		}
	}
	return 0
}

func (s *shelf) drop(run int) {
	for i, n := range s.pages {
		if n == run {
			s.pages[i] = 0
		}
	}
}

// sizes is what runsOf tells of such an arena.
func (s *shelf) sizes() []int {
	list := make([]int, len(s.pages))
	for i, run := range s.pages {
		if run != 0 && slices.Index(s.pages, run) == i {
			for _, other := range s.pages {
				if other == run {
					list[i] += api.PageWords
				}
			}
		}
	}
	return list
}

// model is a detector of the chapter.
type model struct {
	shelf  *shelf
	rooms  []int
	took   []api.Event
	runs   []int // those of the shelf that are its own
	broken bool
}

func (m *model) take(e api.Event) error {
	own := 0
	for _, d := range m.took {
		if d.G == e.G {
			own++
		}
	}
	switch {
	case m.broken:
		return api.ErrState
	case e.G < 0 || e.G > 7 || e.Kind < 1 || e.Kind > 12 || e.Kind == api.EvGo && (e.Obj < 0 || e.Obj > 7):
		return api.ErrRange
	case own >= api.MaxCount:
		m.broken = true
		return api.ErrClock
	}
	var fresh []int
	for _, size := range wants(m.took, e, m.rooms) {
		run := m.shelf.put(size)
		if run == 0 {
			for _, f := range fresh {
				m.shelf.drop(f)
			}
			m.broken = true
			return api.ErrArena
		}
		fresh = append(fresh, run)
	}
	m.runs = append(m.runs, fresh...)
	m.took = append(m.took, e)
	return nil
}

func (m *model) pages() int {
	count := 0
	for _, run := range m.shelf.pages {
		if run != 0 && slices.Contains(m.runs, run) {
			count++
		}
	}
	return count
}

func (m *model) close() {
	for _, run := range m.runs {
		m.shelf.drop(run)
	}
	m.runs, m.broken = nil, true
}

// wants are the sizes of what an event needs for the first time, behind those that were taken, in the order of their allocation.
func wants(took []api.Event, e api.Event, rooms []int) []int {
	var sizes []int
	all := append(slices.Clone(took), e)
	if !known(took, e.G) {
		sizes = append(sizes, 1)
	}
	if e.Kind == api.EvGo && e.Obj != e.G && !known(took, e.Obj) {
		sizes = append(sizes, 1)
	}
	for _, kinds := range [][]int{{api.EvUnlock}, {api.EvGet, api.EvPut, api.EvAdd}, {api.EvSend, api.EvRecv}, {api.EvRead, api.EvWrite}} {
		if !slices.Contains(kinds, e.Kind) || slices.ContainsFunc(took, func(d api.Event) bool { return slices.Contains(kinds, d.Kind) && d.Obj == e.Obj }) {
			continue
		}
		size := 1
		if e.Kind == api.EvSend || e.Kind == api.EvRecv {
			size = max(roomOf(rooms, e.Obj), 1)
		}
		sizes = append(sizes, size)
	}
	if twoRead(all, e.Obj) && !twoRead(took, e.Obj) {
		sizes = append(sizes, 1)
	}
	return sizes
}

func known(took []api.Event, g int) bool {
	return slices.ContainsFunc(took, func(d api.Event) bool { return d.G == g || d.Kind == api.EvGo && d.Obj == g })
}

func roomOf(rooms []int, channel int) int {
	if channel < 0 || channel >= len(rooms) {
		return 0
	}
	return max(rooms[channel], 0)
}

// twoRead tells whether two goroutines read a place somewhere, without an EvWrite of it between.
func twoRead(trace []api.Event, place int) bool {
	for j, b := range trace {
		if b.Kind != api.EvRead || b.Obj != place {
			continue
		}
		for i := j - 1; i >= 0; i-- {
			a := trace[i]
			if a.Kind == api.EvWrite && a.Obj == place {
				break
			}
			if a.Kind == api.EvRead && a.Obj == place && a.G != b.G {
				return true
			}
		}
	}
	return false
}

// needed is how many pages all of a trace wants.
func needed(trace []api.Event, rooms []int) int {
	count := 0
	for i, e := range trace {
		for _, size := range wants(trace[:i], e, rooms) {
			count += size
		}
	}
	return count
}

// A pair is a detector and its model, told the same.
type pair struct {
	*detect.Detector
	model *model
	arena *pool.Arena
}

func newPair(a *pool.Arena, s *shelf, rooms []int) pair {
	return pair{detect.New(a, rooms), &model{shelf: s, rooms: slices.Clone(rooms)}, a}
}

// check holds all that a detector tells of itself against the model.
func (p pair) check(t *testing.T) {
	t.Helper()
	m := p.model
	if p.Pages() != m.pages() || p.Taken() != len(m.took) || p.Broken() != m.broken {
		t.Fatalf("%s, rooms %v: pages %d, taken %d, broken %v, want %d, %d, %v", told(m.took), m.rooms, p.Pages(), p.Taken(), p.Broken(), m.pages(), len(m.took), m.broken)
	}
	if got, want := runsOf(p.arena), m.shelf.sizes(); !slices.Equal(got, want) {
		t.Fatalf("%s, rooms %v: runs %v, want %v", told(m.took), m.rooms, got, want)
	}
}

// take tells an event to both.
func (p pair) take(t *testing.T, e api.Event) error {
	t.Helper()
	words := wordsOf(p.arena)
	want := p.model.take(e)
	if err := p.Take(e); err != want {
		t.Fatalf("%s, rooms %v, in %d pages, then %v: %v, want %v", told(p.model.took), p.model.rooms, p.arena.Share(), e, err, want)
	}
	if want != nil && !slices.Equal(wordsOf(p.arena), words) {
		t.Fatalf("%s, then %v: it was refused, and words were changed", told(p.model.took), e)
	}
	p.check(t)
	return want
}

// checkTaken tells a trace to detectors in arenas of each number of pages from 0 up to more than it needs, and asks Need of all that it begins with.
func checkTaken(t *testing.T, trace []api.Event, rooms []int) {
	t.Helper()
	for i := range len(trace) + 1 {
		if n, err := detect.Need(trace[:i], rooms); n != needed(trace[:i], rooms) || err != nil {
			t.Fatalf("%s, rooms %v: Need = %d, %v, want %d", told(trace[:i]), rooms, n, err, needed(trace[:i], rooms))
		}
	}
	for pages := range needed(trace, rooms) + 2 {
		checkTakenIn(t, pages, trace, rooms)
	}
}

func checkTakenIn(t *testing.T, pages int, trace []api.Event, rooms []int) {
	t.Helper()
	p := newPair(arenaOf(t, pages), &shelf{pages: make([]int, pages)}, rooms)
	p.check(t)
	for i, e := range trace {
		full := needed(trace[:i+1], rooms) > pages
		if err := p.take(t, e); full != (err != nil) {
			t.Fatalf("%s, rooms %v, in %d pages: %v", told(trace[:i+1]), rooms, pages, err)
		}
	}
	p.model.close()
	p.Close()
	p.check(t)
}
