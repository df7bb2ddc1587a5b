package order_test

import (
	"math"
	"math/rand"
	"slices"
	"testing"

	"stockade/api"
	"stockade/order"
)

// The tests of both promises on many random traces, most of them such as no run can do.

// many is how often a test that takes long is done.
func many(n int) int {
	if testing.Short() {
		return n / 10
	}
	return n
}

// A shape is of what random events are made.
type shape struct {
	gos, kinds, objs []int
}

// randomShape is few goroutines and objects, and mostly few kinds, so that events have to do with one another.
func randomShape(r *rand.Rand) shape {
	s := shape{}
	for range 1 + r.Intn(4) {
		s.gos = append(s.gos, r.Intn(api.MaxGo))
	}
	for range 1 + r.Intn(3) {
		s.objs = append(s.objs, []int{0, 0, 0, 1, 1, 2, 3, -1, math.MinInt, math.MaxInt}[r.Intn(10)])
	}
	s.kinds = [][]int{
		{1, 2, 3, 4, 5, 6, 7, 8, 9, 10, 11, 12},
		{1, 2, 3, 4},
		{1, 2, 5, 6, 5, 6},
		{5, 6},
		{1, 2, 7, 8, 9, 11, 11, 11},
		{1, 2, 10, 11, 12},
		{2, 4, 3, 5, 6, 10},
	}[r.Intn(7)]
	return s
}

func (s shape) event(r *rand.Rand) api.Event {
	e := api.Event{G: s.gos[r.Intn(len(s.gos))], Kind: s.kinds[r.Intn(len(s.kinds))], Obj: s.objs[r.Intn(len(s.objs))]}
	if e.Kind == api.EvGo {
		e.Obj = s.gos[r.Intn(len(s.gos))]
	}
	if r.Intn(20) == 0 {
		e.G = r.Intn(api.MaxGo)
	}
	e.At = r.Intn(1000) - 10
	return e
}

func randomTrace(r *rand.Rand, length int) []api.Event {
	s := randomShape(r)
	var trace []api.Event
	for range length {
		trace = append(trace, s.event(r))
	}
	return trace
}

func randomRooms(r *rand.Rand) []int {
	var rooms []int
	for range r.Intn(5) {
		rooms = append(rooms, []int{0, 0, 1, 1, 1, 2, 2, 3, 4, 8, -1, math.MinInt, math.MaxInt}[r.Intn(13)])
	}
	return rooms
}

// A tally counts what traces had, so that none of it is missed.
type tally map[string]int

func (c tally) add(m *model) {
	for b, e := range m.trace {
		c[kindNames[e.Kind]]++
		for a := range b {
			c.pair(m, a, b)
		}
	}
	for _, r := range m.races() {
		c["race "+map[bool]string{true: "w", false: "r"}[r.FirstW]+map[bool]string{true: "w", false: "r"}[r.SecondW]]++
	}
}

// pair counts by which rule an event is directly ahead of another goroutine's.
func (c tally) pair(m *model, a, b int) {
	x, y := m.trace[a], m.trace[b]
	if x.G == y.G {
		return
	}
	if !m.ahead(a, b) {
		if m.past[b][a] {
			c["by others"]++
		}
		return
	}
	name := kindNames[x.Kind] + " " + kindNames[y.Kind]
	if x.Kind == api.EvGo || x.Kind == api.EvRecv && m.room(x.Obj) == 0 {
		name = kindNames[x.Kind] + " of room 0 or go"
	}
	c[name]++
}

func (c tally) need(t *testing.T, least int, names ...string) {
	t.Helper()
	for _, name := range names {
		if c[name] < least {
			t.Errorf("%q came %d times: %v", name, c[name], c)
		}
	}
}

func TestRandomTraces(t *testing.T) {
	r := rand.New(rand.NewSource(181))
	counts := tally{}
	for range many(5000) {
		counts.add(checkTrace(t, randomTrace(r, r.Intn(40)), randomRooms(r)))
	}
	counts.need(t, many(2000), kindNames[1:]...)
	counts.need(t, many(500), "race ww", "race rw", "race wr", "by others", "unlock lock", "send recv", "recv send", "recv of room 0 or go", "go of room 0 or go")
	counts.need(t, many(500), "get get", "get put", "get add", "put get", "put put", "put add", "add get", "add put", "add add")
}

// TestOrder asks what P18.2 says, by the calls' answers alone.
func TestOrder(t *testing.T) {
	r := rand.New(rand.NewSource(182))
	for range many(3000) {
		checkOrder(t, randomTrace(r, r.Intn(40)), randomRooms(r))
	}
}

// TestLongerTraces: Clocks and Races of longer traces, of which not all pairs are asked.
func TestLongerTraces(t *testing.T) {
	r := rand.New(rand.NewSource(183))
	for range many(200) {
		trace, rooms := randomTrace(r, 200+r.Intn(100)), randomRooms(r)
		m := modelOf(trace, rooms)
		clocks, err := order.Clocks(trace, rooms)
		if got, want := clocksText(clocks), clocksText(m.clocks()); got != want || err != nil {
			t.Fatalf("%s, rooms %v\n got %s, %v\nwant %s", told(trace), rooms, got, err, want)
		}
		races, err := order.Races(trace, rooms)
		if want := m.races(); !slices.Equal(races, want) || err != nil {
			t.Fatalf("%s, rooms %v\n got %s, %v\nwant %s", told(trace), rooms, racesText(races), err, racesText(want))
		}
		for range 50 {
			a, b := r.Intn(len(trace)), r.Intn(len(trace))
			if is, err := order.Before(trace, rooms, a, b); is != m.past[b][a] || err != nil {
				t.Fatalf("%s, rooms %v: Before(%d, %d) = %v, %v", told(trace), rooms, a, b, is, err)
			}
		}
	}
}

// TestAnyEvents: events of any numbers at all are refused, or told as the model tells.
func TestAnyEvents(t *testing.T) {
	r := rand.New(rand.NewSource(184))
	any := func() int { return anyNumbers[r.Intn(len(anyNumbers))] }
	took, refused := 0, 0
	for range many(20000) {
		trace := randomTrace(r, 1+r.Intn(12))
		good := true
		for range r.Intn(3) {
			e := &trace[r.Intn(len(trace))]
			*[]*int{&e.G, &e.Kind, &e.Obj, &e.At}[r.Intn(4)] = any()
		}
		for _, e := range trace {
			good = good && e.G >= 0 && e.G <= 7 && e.Kind >= 1 && e.Kind <= 12 && (e.Kind != 10 || e.Obj >= 0 && e.Obj <= 7)
		}
		if good {
			took++
			checkTrace(t, trace, randomRooms(r))
		} else {
			refused++
			checkRefused(t, trace)
		}
	}
	if took < many(5000) || refused < many(5000) {
		t.Error(took, refused)
	}
}
