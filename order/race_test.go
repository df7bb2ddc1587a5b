package order_test

import (
	"math"
	"slices"
	"testing"

	"stockade/api"
	"stockade/order"
)

// The tests of P18.1 on races. Events' bytes are 100, 101 and so on.

// racesOf are a trace and its races, without rooms.
type racesOf struct{ trace, want string }

func checkRaceTable(t *testing.T, list []racesOf) {
	t.Helper()
	for _, x := range list {
		checkRaces(t, x.trace, nil, x.want)
	}
}

func TestKindsOfRaces(t *testing.T) {
	checkRaceTable(t, []racesOf{
		{"0 turn, 1 lock, 2 unlock, 3 send, 4 recv, 5 get, 6 put, 7 add, 0 go 1, 1 end", ""}, // no access
		{"0 read 0", ""},
		{"0 write 0", ""},
		{"0 read 0, 1 read 0, 2 read 0", ""},
		{"0 write 0, 0 read 0, 0 write 0", ""}, // one goroutine
		{"0 write 0, 1 write 1, 2 read 2", ""}, // other places
		{"0 write 0, 1 write 0", "0: w100 w101"},
		{"0 read 0, 1 write 0", "0: r100 w101"},
		{"0 write 0, 1 read 0", "0: w100 r101"},
		{"1 write 5, 0 write 5", "5: w100 w101"},
		{"0 write 0, 1 lock 0, 1 write 0", "0: w100 w102"},
		{"0 write 0, 1 turn 0, 0 end 0, 1 unlock 0, 2 get 0", ""}, // one access; what else has its number is none
		{"0 unlock 0, 1 send 0, 2 put 0, 3 write 0", ""},
	})
}

// TestTied: what happens before a later access doesn't race with it.
func TestTied(t *testing.T) {
	checkRaceTable(t, []racesOf{
		{"0 write 0, 0 go 1, 1 read 0", ""},
		{"0 go 1, 0 write 0, 1 read 0", "0: w101 r102"},
		{"0 read 0, 0 go 1, 1 write 0", ""},
		{"0 write 0, 0 go 1, 1 write 0, 0 read 0", "0: w102 r103"},
		{"0 lock, 0 write 0, 0 unlock, 1 lock, 1 write 0, 1 unlock, 0 lock, 0 read 0", ""},
		{"0 lock, 0 unlock, 0 write 0, 1 lock, 1 write 0", "0: w102 w104"},
		{"0 lock 0, 0 write 0, 0 unlock 0, 1 lock 1, 1 write 0", "0: w101 w104"},
		{"0 write 0, 0 put, 1 get, 1 write 0", ""},
		{"0 write 0, 1 get, 0 put, 1 write 0", "0: w100 w103"},
		{"0 write 0, 0 send, 1 recv, 1 write 0", ""},
		{"0 write 0, 0 send, 0 write 0, 1 recv, 1 write 0", "0: w102 w104"},
		{"0 send, 1 write 0, 1 recv, 0 write 0", ""}, // of room 0
		{"0 send, 1 recv, 1 write 0, 0 write 0", "0: w102 w103"},
		{"0 write 0, 0 go 1, 1 go 2, 2 write 0", ""},
	})
	checkRaces(t, "0 send, 1 write 0, 1 recv, 0 write 0", []int{1}, "0: w101 w103")
	checkRaces(t, "0 send, 1 write 0, 1 recv, 0 send, 0 write 0", []int{1}, "")
	checkRaces(t, "0 send, 1 write 0, 1 recv, 0 send, 0 write 0", []int{2}, "0: w101 w104")
	checkRaces(t, "0 send, 1 write 0, 1 recv, 0 send, 0 send, 0 write 0", []int{2}, "")
}

// TestFirstRace: of accesses that race more than once the earliest one is the second, and only one race of a place is told.
func TestFirstRace(t *testing.T) {
	checkRaceTable(t, []racesOf{
		{"0 write 0, 1 write 0, 2 write 0", "0: w100 w101"},
		{"0 write 0, 1 read 0, 2 write 0, 0 write 0", "0: w100 r101"},
		{"0 read 0, 1 read 0, 0 write 0, 1 write 0", "0: r101 w102"},
		{"0 write 0, 0 go 1, 1 write 0, 0 write 0, 1 write 0", "0: w102 w103"},
		{"0 write 0, 0 go 1, 1 read 0, 2 read 0, 0 write 0", "0: w100 r103"},
		{"0 write 0, 0 go 1, 1 write 0, 1 go 2, 2 read 0, 0 read 0", "0: w102 r105"},
		{"0 write 3, 1 read 3, 3 write 3, 2 read 3", "3: w100 r101"},
	})
}

// TestEarlierOne: which of several that race with the second is the first.
func TestEarlierOne(t *testing.T) {
	checkRaceTable(t, []racesOf{
		// The last EvWrite of those that race, whatever reads there are.
		{"0 write 0, 0 write 0, 1 read 0", "0: w101 r102"},
		{"0 write 0, 0 read 0, 1 write 0", "0: w100 w102"},
		{"0 read 0, 0 write 0, 1 write 0", "0: w101 w102"},
		{"0 read 0, 0 write 0, 0 read 0, 1 write 0", "0: w101 w103"},
		{"2 read 0, 1 read 0, 3 read 0, 2 turn, 0 write 0", "0: r101 w104"},
		{"1 write 0, 1 go 2, 2 write 0, 0 write 0", "0: w102 w103"},
		{"2 write 0, 2 go 1, 1 write 0, 0 write 0", "0: w102 w103"},
		{"2 write 0, 2 go 1, 1 write 0, 1 go 2, 2 read 0, 0 write 0", "0: w102 w105"},
		{"2 write 0, 2 go 1, 1 write 0, 1 go 2, 2 write 0, 0 write 0", "0: w104 w105"},
		{"1 read 0, 1 go 2, 2 write 0, 2 go 3, 3 read 0, 0 write 0", "0: w102 w105"},
		{"1 write 0, 1 go 2, 2 read 0, 2 go 3, 3 read 0, 0 write 0", "0: w100 w105"},
		{"2 write 0, 2 unlock, 1 lock, 1 write 0, 1 unlock, 0 lock, 0 turn, 3 read 0", "0: w103 r107"},
		// Some happen before it: only those that race are told.
		{"1 write 0, 1 go 0, 1 write 0, 0 read 0", "0: w102 r103"},
		{"1 write 0, 1 go 0, 1 read 0, 0 read 0", ""},
		{"1 write 0, 1 go 0, 1 read 0, 0 write 0", "0: r102 w103"}, // the EvWrite happens before it, a later read doesn't
		{"1 write 0, 1 go 2, 1 go 0, 2 read 0, 0 write 0", "0: r103 w104"},
		{"1 read 0, 1 go 0, 1 read 0, 0 write 0", "0: r102 w103"},
		{"1 write 0, 1 go 2, 2 write 0, 1 go 0, 0 write 0", "0: w102 w104"},
		{"1 write 0, 1 go 2, 2 write 0, 2 unlock, 1 turn, 3 lock, 3 read 0, 1 read 0", "0: w102 r107"},
		// Of reads the goroutine with the least number, of that one the last that races.
		{"2 read 0, 1 read 0, 0 write 0", "0: r101 w102"},
		{"1 read 0, 2 read 0, 0 write 0", "0: r100 w102"},
		{"1 read 0, 2 read 0, 1 read 0, 2 read 0, 0 write 0", "0: r102 w104"},
		{"7 read 0, 6 read 0, 5 read 0, 6 read 0, 4 write 0", "0: r102 w104"},
		{"0 read 0, 3 read 0, 0 read 0, 1 write 0", "0: r102 w103"},
		{"0 read 0, 0 go 1, 3 read 0, 1 write 0", "0: r102 w103"}, // that of 0 happens before it
		{"0 read 0, 0 go 1, 3 read 0, 0 read 0, 1 write 0", "0: r103 w104"},
		{"1 read 0, 3 read 0, 2 read 0, 1 write 0", "0: r102 w103"}, // its own one isn't told
		{"0 read 0, 0 read 0, 0 unlock, 5 read 0, 1 lock, 1 write 0", "0: r103 w105"},
	})
}

func TestPlaces(t *testing.T) {
	checkRaceTable(t, []racesOf{
		{"0 write 9, 0 write 4, 1 write 9, 1 read 4", "4: w101 r103, 9: w100 w102"},
		{"0 write 4, 0 write 9, 1 write 9, 1 read 4", "4: w100 r103, 9: w101 w102"},
		{"0 write 2, 0 write 1, 0 read 0, 0 read 3, 1 write 3, 1 read 2, 1 read 0, 1 write 1", "1: w101 w107, 2: w100 r105, 3: r103 w104"},
		{"0 write -1, 0 write least, 0 write greatest, 0 write 0, 1 read 0, 1 read greatest, 1 read least, 1 write -1", "-9223372036854775808: w101 r106, -1: w100 w107, 0: w103 r104, 9223372036854775807: w102 r105"},
		{"0 write 127, 0 write 128, 1 write 128, 1 write 127", "127: w100 w103, 128: w101 w102"},
		{"0 write 1, 1 read 1, 0 write 0, 2 read 1, 0 write 2, 2 read 2", "1: w100 r101, 2: w104 r105"},
	})
}

// TestBytes: First and Second are the events' bytes, be they what they are, and be they alike.
func TestBytes(t *testing.T) {
	for _, x := range [][2]int{{0, 0}, {5, 3}, {-1, 7}, {math.MinInt, math.MaxInt}, {math.MaxInt, math.MaxInt}, {8192, 8193}} {
		trace := []api.Event{{G: 3, Kind: api.EvRead, Obj: 6, At: x[0]}, {G: 1, Kind: api.EvWrite, Obj: 6, At: x[1]}, {G: 2, Kind: api.EvWrite, Obj: 6, At: 44}}
		got, err := order.Races(trace, []int{1})
		if err != nil || !slices.Equal(got, []api.Race{{Place: 6, First: x[0], Second: x[1], SecondW: true}}) {
			t.Error(got, err)
		}
		checkTrace(t, trace, nil)
	}
}

// TestAllShortAccesses holds all short traces of accesses and EvGos of three goroutines against the model.
func TestAllShortAccesses(t *testing.T) {
	var kinds []api.Event
	for g := range 3 {
		kinds = append(kinds, api.Event{G: g, Kind: api.EvRead}, api.Event{G: g, Kind: api.EvWrite}, api.Event{G: g, Kind: api.EvGo, Obj: (g + 1) % 3})
	}
	found := 0
	for n := range many(59049) { // 5 events, of 9 kinds each
		var trace []api.Event
		for i, rest := 0, n; i < 5; i, rest = i+1, rest/len(kinds) {
			e := kinds[rest%len(kinds)]
			e.At = firstAt + i
			trace = append(trace, e)
		}
		m := modelOf(trace, nil)
		got, err := order.Races(trace, nil)
		if want := m.races(); !slices.Equal(got, want) || err != nil {
			t.Fatalf("%s\n got %s, %v\nwant %s", told(trace), racesText(got), err, racesText(want))
		}
		found += len(got)
	}
	if found < many(10000) {
		t.Error(found)
	}
}
