package order_test

import (
	"math"
	"slices"
	"testing"

	"stockade/api"
	"stockade/clock"
	"stockade/order"
)

// The tests of P18.1 on long traces, of more events than a run has fuel for and more of one goroutine than layer 1's Tick counts.

const long = api.MaxFuel + 1000

// checkLong asks for the last clock and the races of a long trace.
func checkLong(t *testing.T, trace []api.Event, rooms []int, last []int, races []api.Race) {
	t.Helper()
	clocks, err := order.Clocks(trace, rooms)
	if err != nil || len(clocks) != len(trace) || !slices.Equal(clocks[len(trace)-1], last) {
		t.Errorf("Clocks of %d events, the last one %v, %v, want %v", len(clocks), clocks[max(len(clocks)-1, 0):], err, last)
	}
	for i := 1; i < len(clocks); i++ {
		if trace[i].G == trace[i-1].G && !clock.AtMost(clocks[i-1], clocks[i]) {
			t.Fatalf("%v, %v", clocks[i-1], clocks[i])
		}
	}
	got, err := order.Races(trace, rooms)
	if err != nil || !order.Same(got, races) {
		t.Errorf("%d races, %v, want %d", len(got), err, len(races))
	}
}

func TestLongOfOne(t *testing.T) {
	trace := slices.Repeat([]api.Event{{G: 3, Kind: api.EvWrite, Obj: 5, At: 7}}, long)
	checkLong(t, trace, nil, []int{0, 0, 0, long}, nil)
	trace = append(trace, api.Event{G: 3, Kind: api.EvUnlock}, api.Event{G: 1, Kind: api.EvLock}, api.Event{G: 1, Kind: api.EvWrite, Obj: 5, At: 8})
	checkLong(t, trace, nil, []int{0, 2, 0, long + 1}, nil)
	if is, err := order.Before(trace, nil, long-1, long+2); !is || err != nil {
		t.Error(is, err)
	}
	trace = append(trace, api.Event{G: 3, Kind: api.EvRead, Obj: 5, At: 9})
	checkLong(t, trace, nil, []int{0, 0, 0, long + 2}, []api.Race{{Place: 5, First: 8, Second: 9, FirstW: true}})
	if is, err := order.Before(trace, nil, long+2, long+3); is || err != nil {
		t.Error(is, err)
	}
}

// TestLongOfAll: goroutines in turn, by a mutex that all of them lock and unlock, and not.
func TestLongOfAll(t *testing.T) {
	var tied, loose []api.Event
	for i := range long {
		g := i % api.MaxGo
		tied = append(tied, api.Event{G: g, Kind: api.EvLock}, api.Event{G: g, Kind: api.EvWrite, Obj: i % 3, At: i}, api.Event{G: g, Kind: api.EvUnlock})
		loose = append(loose, api.Event{G: g, Kind: api.EvRead, Obj: i / 2, At: i})
	}
	n := 3 * long / api.MaxGo
	checkLong(t, tied, nil, slices.Repeat([]int{n}, api.MaxGo), nil)
	last := make([]int, api.MaxGo)
	last[api.MaxGo-1] = long / api.MaxGo
	checkLong(t, loose, nil, last, nil)
	var races []api.Race
	for i := range long / 2 {
		loose[2*i+1].Kind = api.EvWrite
		loose[2*i].Obj, loose[2*i+1].Obj = -i, -i
		races = append(races, api.Race{Place: -i, First: 2 * i, Second: 2*i + 1, SecondW: true})
	}
	slices.Reverse(races)
	checkLong(t, loose, nil, last, races)
}

// TestLongOfChannels: a channel that is sent to and received from so often, with each room.
func TestLongOfChannels(t *testing.T) {
	const half = long / 2
	for _, x := range []struct {
		room int
		last []int
	}{{0, []int{half, half}}, {1, []int{half, half - 1}}, {8, []int{half, half - 8}}, {half, []int{half}}, {math.MaxInt, []int{half}}} {
		var turns, apart []api.Event
		for range half {
			turns = append(turns, api.Event{G: 1, Kind: api.EvRecv, Obj: 4}, api.Event{G: 0, Kind: api.EvSend, Obj: 4})
			apart = append(apart, api.Event{G: 0, Kind: api.EvSend, Obj: 4})
		}
		if x.room > 0 {
			checkLong(t, turns, []int{9, 9, 9, 9, x.room}, x.last, nil)
		}
		for range half {
			apart = append(apart, api.Event{G: 1, Kind: api.EvRecv, Obj: 4})
		}
		checkLong(t, apart, []int{9, 9, 9, 9, x.room}, []int{half, half}, nil)
		apart = append(apart, api.Event{G: 0, Kind: api.EvTurn})
		last := []int{half + 1, half}
		if x.room > 0 {
			last = last[:1]
		}
		checkLong(t, apart, []int{9, 9, 9, 9, x.room}, last, nil)
	}
}

// TestManyObjects: each event of another object.
func TestManyObjects(t *testing.T) {
	for kind := api.EvRead; kind <= api.EvEnd; kind++ {
		if kind == api.EvGo {
			continue
		}
		var trace []api.Event
		for i := range long {
			trace = append(trace, api.Event{G: i % 2, Kind: kind, Obj: i * 1000003})
		}
		checkLong(t, trace, []int{1}, []int{0, long / 2}, nil)
	}
}
