package detect_test

import (
	"math"
	"math/rand"
	"slices"
	"testing"

	"stockade/api"
	"stockade/detect"
)

// The tests of P19.1 on many random traces, most of them such as no run can do.

// many is how often a test that takes long is done.
func many(n int) int {
	if testing.Short() {
		return n / 10
	}
	return n
}

// A shape is of what random events are made.
type shape struct {
	gos, kinds, objs []int
}

// randomShape is few goroutines and objects, and mostly few kinds, so that events have to do with one another.
func randomShape(r *rand.Rand) shape {
	s := shape{}
	for range 1 + r.Intn(4) {
		s.gos = append(s.gos, r.Intn(api.MaxGo))
	}
	for range 1 + r.Intn(3) {
		s.objs = append(s.objs, []int{0, 0, 0, 1, 1, 2, 3, -1, math.MinInt, math.MaxInt}[r.Intn(10)])
	}
	s.kinds = [][]int{
		{1, 2, 3, 4, 5, 6, 7, 8, 9, 10, 11, 12},
		{1, 1, 1, 2},
		{1, 2, 3, 4},
		{1, 2, 5, 6, 5, 6},
		{1, 2, 7, 8, 9, 11, 11, 11},
		{1, 2, 10, 11, 12},
		{2, 4, 3, 5, 6, 10},
	}[r.Intn(7)]
	return s
}

func (s shape) event(r *rand.Rand) api.Event {
	e := api.Event{G: s.gos[r.Intn(len(s.gos))], Kind: s.kinds[r.Intn(len(s.kinds))], Obj: s.objs[r.Intn(len(s.objs))]}
	if e.Kind == api.EvGo {
		e.Obj = s.gos[r.Intn(len(s.gos))]
	}
	if r.Intn(20) == 0 {
		e.G = r.Intn(api.MaxGo)
	}
	e.At = r.Intn(1000) - 10
	return e
}

func randomTrace(r *rand.Rand, length int) []api.Event {
	s := randomShape(r)
	var trace []api.Event
	for range length {
		trace = append(trace, s.event(r))
	}
	return trace
}

func randomRooms(r *rand.Rand) []int {
	var rooms []int
	for range r.Intn(5) {
		rooms = append(rooms, []int{0, 0, 1, 1, 1, 2, 2, 3, 4, 8, -1, math.MinInt}[r.Intn(12)])
	}
	return rooms
}

// A tally counts what came, so that none of it is missed.
type tally map[string]int

func (c tally) need(t *testing.T, least int, names ...string) {
	t.Helper()
	for _, name := range names {
		if c[name] < least {
			t.Errorf("%q came %d times: %v", name, c[name], c)
		}
	}
}

func (c tally) err(err error) {
	if err == nil {
		c["taken"]++
	} else {
		c[err.Error()]++
	}
}

// TestRandomTraces: in arenas of each number of pages.
func TestRandomTraces(t *testing.T) {
	r := rand.New(rand.NewSource(191))
	for range many(1500) {
		checkTaken(t, randomTrace(r, r.Intn(30)), randomRooms(r))
	}
}

// TestAnyEvents: events of any numbers at all, in arenas that others use in part.
func TestAnyEvents(t *testing.T) {
	r := rand.New(rand.NewSource(192))
	counts := tally{}
	for range many(6000) {
		marks := make([]byte, r.Intn(25))
		for i := range marks {
			marks[i] = "..x"[r.Intn(3)]
		}
		first, addresses := used(t, string(marks))
		p := newPair(first.arena, first.model.shelf, randomRooms(r))
		for _, e := range randomTrace(r, r.Intn(40)) {
			if r.Intn(10) == 0 {
				*[]*int{&e.G, &e.Kind, &e.Obj, &e.At}[r.Intn(4)] = anyNumbers[r.Intn(len(anyNumbers))]
			}
			counts.err(p.take(t, e))
			checkRising(t, p.Detector)
		}
		p.model.close()
		p.Close()
		p.check(t)
		checkOthers(t, p, addresses)
	}
	counts.need(t, many(1000), "taken", "stockade: range", "stockade: state", "stockade: arena")
}

// checkRising asks that races have rising places, whatever they are.
func checkRising(t *testing.T, d *detect.Detector) {
	t.Helper()
	races := d.Races()
	for i := 1; i < len(races); i++ {
		if races[i-1].Place >= races[i].Place {
			t.Fatal(races)
		}
	}
}

// TestSeveralInOne: several detectors in one arena, told random events in turn, closed and made anew.
func TestSeveralInOne(t *testing.T) {
	r := rand.New(rand.NewSource(193))
	counts := tally{}
	for range many(400) {
		a := arenaOf(t, 30)
		s := &shelf{pages: make([]int, 30)}
		rooms := randomRooms(r)
		list := []pair{newPair(a, s, rooms), newPair(a, s, nil), newPair(a, s, []int{2})}
		form := randomShape(r)
		for range 150 {
			i := r.Intn(len(list))
			if r.Intn(30) == 0 {
				list[i].model.close()
				list[i].Close()
				list[i].check(t)
				list[i] = newPair(a, s, rooms)
			}
			counts.err(list[i].take(t, form.event(r)))
			for _, p := range list {
				p.check(t)
			}
		}
	}
	counts.need(t, many(50), "taken", "stockade: state", "stockade: arena")
}

// TestNeedOfRandom: Need of longer traces, which is all that a detector with enough pages has allocated.
func TestNeedOfRandom(t *testing.T) {
	r := rand.New(rand.NewSource(194))
	for range many(300) {
		trace, rooms := randomTrace(r, 100+r.Intn(100)), randomRooms(r)
		a := arenaOf(t, plenty)
		d := detect.New(a, rooms)
		for _, e := range trace {
			if err := d.Take(e); err != nil {
				t.Fatal(told(trace), err)
			}
		}
		n, err := detect.Need(trace, rooms)
		if want := needed(trace, rooms); n != want || d.Pages() != want || a.Used() != want || err != nil {
			t.Fatalf("%s, rooms %v: %d, %v, %d, want %d", told(trace), rooms, n, err, d.Pages(), want)
		}
	}
}

// TestManyPlaces: places at random, each of which has its pages by itself.
func TestManyPlaces(t *testing.T) {
	r := rand.New(rand.NewSource(195))
	for range many(100) {
		var trace []api.Event
		for range 120 {
			trace = append(trace, api.Event{G: r.Intn(3), Kind: 1 + r.Intn(2)*r.Intn(2), Obj: r.Intn(30) - 10})
		}
		checkTakenIn(t, 100, trace, nil)
		checkTakenIn(t, 30, trace, nil)
		places := map[int]int{}
		for _, e := range trace {
			places[e.Obj]++
		}
		n, err := detect.Need(trace, nil)
		if err != nil || n < len(places)+3 || n > 2*len(places)+3 {
			t.Fatal(n, err, len(places))
		}
	}
	if twoRead(traced("0 read 1, 0 write 1, 1 read 1"), 1) || !twoRead(traced("0 read 1, 0 write 2, 1 read 1"), 1) || !slices.Equal(wants(nil, traced("0 go 1")[0], nil), []int{1, 1}) {
		t.Error("the model is wrong")
	}
}
