package order_test

import (
	"fmt"
	"slices"
	"testing"

	"stockade/api"
	"stockade/order"
)

// The model: the chapter's words, held against every pair of events, without clocks.

// model is what the chapter tells of a trace.
type model struct {
	trace []api.Event
	rooms []int
	turn  []int    // of each event the how manieth of its goroutine it is
	nth   []int    // of each EvSend and EvRecv the how manieth of its kind and channel it is
	past  [][]bool // of each event which ones happen before it
}

func modelOf(trace []api.Event, rooms []int) *model {
	m := &model{trace: trace, rooms: rooms}
	for b, e := range trace {
		turn, nth := 0, 0
		for _, d := range trace[:b+1] {
			if d.G == e.G {
				turn++
			}
			if d.Kind == e.Kind && d.Obj == e.Obj {
				nth++
			}
		}
		m.turn, m.nth = append(m.turn, turn), append(m.nth, nth)
	}
	for b := range trace {
		past := make([]bool, len(trace))
		for a := range b {
			if !m.ahead(a, b) {
				continue
			}
			past[a] = true
			for c, is := range m.past[a] {
				past[c] = past[c] || is
			}
		}
		m.past = append(m.past, past)
	}
	return m
}

func (m *model) room(channel int) int {
	if channel >= 0 && channel < len(m.rooms) && m.rooms[channel] > 0 {
		return m.rooms[channel]
	}
	return 0
}

// ahead tells whether an event is directly ahead of a later one.
func (m *model) ahead(a, b int) bool {
	x, y := m.trace[a], m.trace[b]
	atomic := func(e api.Event) bool { return e.Kind == api.EvGet || e.Kind == api.EvPut || e.Kind == api.EvAdd }
	return x.G == y.G ||
		x.Kind == api.EvGo && x.Obj == y.G ||
		x.Kind == api.EvUnlock && y.Kind == api.EvLock && x.Obj == y.Obj ||
		atomic(x) && atomic(y) && x.Obj == y.Obj ||
		x.Kind == api.EvSend && y.Kind == api.EvRecv && x.Obj == y.Obj && m.nth[a] == m.nth[b] ||
		x.Kind == api.EvRecv && y.Kind == api.EvSend && x.Obj == y.Obj && m.room(x.Obj) >= 1 && m.nth[a] == m.nth[b]-m.room(x.Obj) ||
		x.Kind == api.EvRecv && m.room(x.Obj) == 0 && m.sender(a) == y.G
}

// sender is the goroutine whose EvSend an EvRecv takes from, if that stands ahead of it; else -1.
func (m *model) sender(recv int) int {
	for i, e := range m.trace[:recv] {
		if e.Kind == api.EvSend && e.Obj == m.trace[recv].Obj && m.nth[i] == m.nth[recv] {
			return e.G
		}
	}
	return -1
}

func (m *model) clock(b int) []int {
	c := make([]int, api.MaxGo)
	for a, e := range m.trace {
		if a == b || m.past[b][a] {
			c[e.G]++
		}
	}
	for c[len(c)-1] == 0 {
		c = c[:len(c)-1]
	}
	return c
}

func (m *model) clocks() [][]int {
	var list [][]int
	for b := range m.trace {
		list = append(list, m.clock(b))
	}
	return list
}

// racing tells whether two accesses, of which the first one is earlier, race.
func (m *model) racing(a, b int) bool {
	x, y := m.trace[a], m.trace[b]
	access := func(e api.Event) bool { return e.Kind == api.EvRead || e.Kind == api.EvWrite }
	return access(x) && access(y) && x.Obj == y.Obj && (x.Kind == api.EvWrite || y.Kind == api.EvWrite) && x.G != y.G && !m.past[b][a]
}

// first is the earlier access that is told of those that race with one; -1, if there is none.
func (m *model) first(b int) int {
	lastWrite, least := -1, -1
	for a := range b {
		if !m.racing(a, b) {
			continue
		}
		if m.trace[a].Kind == api.EvWrite {
			lastWrite = a
		}
		if least < 0 || m.trace[a].G <= m.trace[least].G {
			least = a
		}
	}
	if lastWrite >= 0 {
		return lastWrite
	}
	return least
}

func (m *model) races() []api.Race {
	found := map[int]api.Race{}
	var places []int
	for b, y := range m.trace {
		if _, has := found[y.Obj]; has && (y.Kind == api.EvRead || y.Kind == api.EvWrite) {
			continue
		}
		if a := m.first(b); a >= 0 {
			x := m.trace[a]
			found[y.Obj] = api.Race{Place: y.Obj, First: x.At, Second: y.At, FirstW: x.Kind == api.EvWrite, SecondW: y.Kind == api.EvWrite}
			places = append(places, y.Obj)
		}
	}
	slices.Sort(places)
	var list []api.Race
	for _, p := range places {
		list = append(list, found[p])
	}
	return list
}

// checkTrace holds every call against the model of a trace in form, and gives the model.
func checkTrace(t *testing.T, trace []api.Event, rooms []int) *model {
	t.Helper()
	m := modelOf(trace, rooms)
	if err := order.Check(trace); err != nil {
		t.Fatalf("%s: Check = %v", told(trace), err)
	}
	clocks, err := order.Clocks(trace, rooms)
	if got, want := clocksText(clocks), clocksText(m.clocks()); got != want || err != nil {
		t.Fatalf("%s, rooms %v: Clocks\n got %s, %v\nwant %s", told(trace), rooms, got, err, want)
	}
	races, err := order.Races(trace, rooms)
	if want := m.races(); !slices.Equal(races, want) || err != nil {
		t.Fatalf("%s, rooms %v: Races\n got %s, %v\nwant %s", told(trace), rooms, racesText(races), err, racesText(want))
	}
	for b := range trace {
		for a := range trace {
			if is, err := order.Before(trace, rooms, a, b); is != m.past[b][a] || err != nil {
				t.Fatalf("%s, rooms %v: Before(%d, %d) = %v, %v", told(trace), rooms, a, b, is, err)
			}
		}
	}
	return m
}

// checkOrder asks what P18.2 says of a trace, by the calls' answers alone.
func checkOrder(t *testing.T, trace []api.Event, rooms []int) {
	t.Helper()
	clocks, err := order.Clocks(trace, rooms)
	if err != nil || len(clocks) != len(trace) {
		t.Fatal(told(trace), clocks, err)
	}
	var done [api.MaxGo]int
	before := make([][]bool, len(trace))
	own := make([]int, len(trace))
	for a, e := range trace {
		done[e.G]++
		own[a] = done[e.G]
		for b := range trace {
			is, err := order.Before(trace, rooms, a, b)
			if err != nil || is && a >= b {
				t.Fatalf("%s, rooms %v: Before(%d, %d) = %v, %v", told(trace), rooms, a, b, is, err)
			}
			before[a] = append(before[a], is)
		}
	}
	for a, e := range trace {
		for b, c := range clocks {
			count := append(slices.Clone(c), make([]int, api.MaxGo)...)[e.G]
			if is := count >= own[a]; a != b && is != before[a][b] {
				t.Fatalf("%s, rooms %v: Before(%d, %d) = %v, and the clocks are %s", told(trace), rooms, a, b, before[a][b], clocksText(clocks))
			}
			if !before[a][b] {
				continue
			}
			for c := range trace {
				if before[b][c] && !before[a][c] {
					t.Fatalf("%s, rooms %v: %d, %d, %d are no order", told(trace), rooms, a, b, c)
				}
			}
		}
	}
}

// TestModel holds the model against what the chapter's examples and some more say, so that it isn't wrong as the package is.
func TestModel(t *testing.T) {
	for _, x := range []struct {
		trace string
		rooms []int
		want  string
	}{
		{"0 write 0, 0 go 1, 1 read 0", nil, "1 / 2 / 2 1 "},
		{"0 go 1, 0 write 0, 1 read 0", nil, "1 / 2 / 1 1 0: w101 r102"},
		{"0 send 0, 1 send 0, 2 recv 0, 2 recv 0, 1 write 0, 0 write 0", []int{1}, "1 / 0 1 / 1 0 1 / 1 1 2 / 0 2 / 2 0: w104 w105"},
		{"0 send 0, 1 send 0, 2 recv 0, 2 recv 0, 1 write 0, 0 write 0", nil, "1 / 0 1 / 1 0 1 / 1 1 2 / 1 2 2 / 2 0 1 0: w104 w105"},
	} {
		m := modelOf(traced(x.trace), x.rooms)
		if got := fmt.Sprint(clocksText(m.clocks()), " ", racesText(m.races())); got != x.want {
			t.Errorf("%s\n got %s\nwant %s", x.trace, got, x.want)
		}
	}
}
