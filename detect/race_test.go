package detect_test

import (
	"fmt"
	"math"
	"strings"
	"testing"

	"stockade/api"
	"stockade/detect"
)

// The tests of P19.2 on traces that runs can do: which race of a place is told, and how.

// enough is a detector that took a trace, in an arena of enough pages.
func enough(t *testing.T, trace []api.Event, rooms []int) *detect.Detector {
	t.Helper()
	d := detect.New(arenaOf(t, 254), rooms)
	for _, e := range trace {
		if err := d.Take(e); err != nil {
			t.Fatalf("%s: %v", told(trace), err)
		}
	}
	return d
}

// raced are a trace and its races, as racesText tells them.
type raced struct{ trace, want string }

func checkRaces(t *testing.T, rooms []int, list []raced) {
	t.Helper()
	for _, x := range list {
		trace := traced(x.trace)
		checkRun(t, trace, rooms)
		if got := racesText(enough(t, trace, rooms).Races()); got != x.want {
			t.Errorf("%s, rooms %v\n got %s\nwant %s", x.trace, rooms, got, x.want)
		}
	}
}

func TestRacesOfTwo(t *testing.T) {
	checkRaces(t, nil, []raced{
		{"0 go 1, 0 write 5, 1 write 5", "5: w101 w102"},
		{"0 go 1, 1 write 5, 0 read 5", "5: w101 r102"},
		{"0 go 1, 0 read 5, 1 write 5", "5: r101 w102"},
		{"0 go 1, 0 read 5, 1 read 5", ""},
		{"0 go 1, 0 write 5, 1 write 4", ""},
		{"0 write 5, 0 go 1, 1 write 5, 1 read 5", ""},
		{"0 go 1, 0 write 5, 1 turn, 1 turn, 1 read 5", "5: w101 r104"},
		{"0 write 5, 0 go 1, 0 read 5, 1 read 5, 0 read 5, 1 read 5", ""},
	})
}

// TestWhichIsFirst: the last of the EvWrites that race, else of the least goroutine the last EvRead that does.
func TestWhichIsFirst(t *testing.T) {
	const begin = "0 go 1, 0 go 2, 0 go 3, "
	checkRaces(t, nil, []raced{
		{begin + "1 write 5, 1 write 5, 2 read 5", "5: w104 r105"},
		{begin + "1 write 5, 1 read 5, 2 write 5", "5: w103 w105"}, // a write ahead of a read behind it
		{begin + "0 read 5, 1 write 5", "5: r103 w104"},
		{begin + "0 read 5, 0 read 5, 1 write 5", "5: r104 w105"},
		{begin + "3 read 5, 1 read 5, 2 write 5", "5: r104 w105"}, // of the least goroutine, though another one came first
		{begin + "1 read 5, 3 read 5, 1 read 5, 2 write 5", "5: r105 w106"},
		{begin + "1 read 5, 3 read 5, 1 write 5", "5: r104 w105"}, // its own is none
		{begin + "3 read 5, 2 read 5, 1 read 5, 0 read 5, 1 write 5", "5: r106 w107"},
		{"0 read 5, 0 go 1, 0 go 2, 2 read 5, 1 write 5", "5: r103 w104"}, // the least one's happens before it
		{"0 read 5, 0 go 1, 0 read 5, 1 write 5", "5: r102 w103"},
		{"0 read 5, 0 go 1, 0 turn, 1 write 5", ""},
		{"0 write 5, 0 read 5, 0 go 1, 1 write 5, 1 read 5, 0 turn", ""},
	})
}

// TestEachReader: of all goroutines each one's EvRead is kept, whichever read with it.
func TestEachReader(t *testing.T) {
	const begin = "0 read 5, 0 go 1, 0 go 2, 0 go 3, 0 go 4, 0 go 5, 0 go 6, 0 go 7, " // so that the first EvRead happens before all others' events
	for g := 1; g < api.MaxGo; g++ {
		for other := 1; other < api.MaxGo; other++ {
			text := fmt.Sprintf("%s%d read 5, %d write 5", begin, g, other)
			want := "5: r108 w109"
			if g == other {
				want = ""
			}
			checkRaces(t, nil, []raced{{text, want}})
		}
	}
}

// TestFirstOfAPlace: only the first race of a place is told, whatever comes behind it.
func TestFirstOfAPlace(t *testing.T) {
	checkRaces(t, nil, []raced{
		{"0 go 1, 0 read 5, 1 write 5, 0 write 5, 1 write 5, 1 read 5, 0 read 5", "5: r101 w102"},
		{"0 go 1, 0 write 5, 1 read 5, 1 write 5, 0 read 5", "5: w101 r102"},
		{"0 go 1, 0 write 5, 1 write 4, 1 write 5, 0 write 4, 1 write 3, 0 read 3", "3: w105 r106, 4: w102 w104, 5: w101 w103"},
		{"0 go 1, 0 write 2, 0 write 4, 0 write 6, 1 write 4, 1 write 2, 1 write 6, 1 write 5, 0 read 5", "2: w101 w105, 4: w102 w104, 5: w107 r108, 6: w103 w106"},
	})
}

// TestReadsSince: of the EvReads those since the last EvWrite count, of places with a second page and without.
func TestReadsSince(t *testing.T) {
	checkRaces(t, []int{1, 1}, []raced{
		{"0 go 1, 1 read 5, 1 send 0, 0 recv 0, 0 write 5, 0 send 1, 1 recv 1, 1 write 5", ""},
		{"0 go 1, 0 read 5, 1 read 5, 1 send 0, 0 recv 0, 0 write 5, 0 send 1, 1 recv 1, 1 write 5", ""},
		{"0 go 1, 0 read 5, 1 read 5, 1 send 0, 0 recv 0, 0 write 5, 0 send 1, 0 read 5, 1 recv 1, 1 write 5", "5: r107 w109"},
		{"0 go 1, 0 read 5, 1 read 5, 1 send 0, 1 read 5, 0 recv 0, 0 write 5", "5: r104 w106"},
		{"0 go 1, 0 go 2, 1 read 5, 1 send 0, 2 recv 0, 2 read 5, 2 send 1, 0 recv 1, 0 write 5, 0 turn", ""}, // one behind the other
		{"0 go 1, 0 go 2, 1 read 5, 2 read 5, 2 send 1, 0 recv 1, 0 write 5", "5: r102 w106"},
	})
}

// TestWhatTies: each rule of layer 18, by whether it keeps two accesses apart.
func TestWhatTies(t *testing.T) {
	checkRaces(t, nil, []raced{
		{"0 go 1, 0 lock 3, 0 write 5, 0 unlock 3, 1 lock 3, 1 write 5", ""},
		{"0 go 1, 0 lock 3, 0 unlock 3, 0 write 5, 1 lock 3, 1 write 5", "5: w103 w105"},
		{"0 go 1, 0 lock 3, 0 write 5, 0 unlock 3, 1 lock 4, 1 write 5", "5: w102 w105"},
		{"0 go 1, 0 write 5, 0 put 3, 1 get 3, 1 write 5", ""},
		{"0 go 1, 0 write 5, 0 get 3, 1 add 3, 1 write 5", ""},
		{"0 go 1, 0 write 5, 0 get 3, 1 get 3, 1 write 5", ""},
		{"0 go 1, 0 write 5, 0 put 3, 1 get 4, 1 write 5", "5: w101 w104"},
		{"0 go 1, 0 put 3, 0 write 5, 1 get 3, 1 write 5", "5: w102 w104"},
		{"0 go 1, 0 go 2, 0 write 5, 0 put 3, 1 get 3, 2 put 3, 2 write 5", ""}, // by way of another one
		{"0 go 1, 1 turn, 0 write 5, 0 go 2, 1 write 5", "5: w102 w104"},
	})
}

// TestChannelsTie: with each room, what is sent, and the EvSend that a room lets go on.
func TestChannelsTie(t *testing.T) {
	for _, rooms := range [][]int{{0}, {-1}, {math.MinInt}, nil} {
		checkHandedOver(t, rooms)
	}
	for room := 1; room <= api.MaxRoom; room++ {
		fill := strings.Repeat("0 send 0, ", room-1)
		checkRaces(t, []int{room}, []raced{
			{"0 go 1, 1 write 5, 0 send 0, " + fill + "1 recv 0, 0 send 0, 0 write 5", ""},
			{"0 go 1, 0 send 0, " + fill + "1 recv 0, 1 write 5, 0 send 0, 0 write 5", fmt.Sprintf("5: w%d w%d", 102+room, 104+room)},
			{"0 go 1, 0 write 5, 0 send 0, " + fill + "1 recv 0, 1 write 5", ""},
			{"0 go 1, 0 send 0, 0 write 5, " + fill + "1 recv 0, 1 write 5", fmt.Sprintf("5: w102 w%d", 103+room)},
		})
		if room > 1 { // there is room still, so no EvRecv is ahead of the next EvSend
			checkRaces(t, []int{room}, []raced{{"0 go 1, 1 write 5, 0 send 0, 1 recv 0, 0 send 0, 0 write 5", "5: w101 w105"}})
		}
	}
}

// checkHandedOver is on a channel of room 0, which may be told in several ways.
func checkHandedOver(t *testing.T, rooms []int) {
	t.Helper()
	checkRaces(t, rooms, []raced{
		{"0 go 1, 0 write 5, 0 send 0, 1 recv 0, 1 write 5", ""},
		{"0 go 1, 0 send 0, 1 recv 0, 0 write 5, 1 write 5", "5: w103 w104"},
		{"0 go 1, 1 write 5, 0 send 0, 1 recv 0, 0 write 5", ""},
		{"0 go 1, 0 send 0, 1 recv 0, 1 write 5, 0 turn, 0 write 5", "5: w103 w105"},
		{"0 go 1, 0 go 2, 0 send 0, 1 recv 0, 1 write 5, 2 send 0, 1 recv 0, 0 write 5", "5: w104 w107"}, // it lets its own sender know alone
		{"0 go 1, 0 go 2, 0 send 0, 1 recv 0, 1 write 5, 2 send 0, 1 recv 0, 2 write 5", ""},
		{"0 go 1, 0 go 2, 1 write 5, 0 send 0, 1 recv 0, 2 send 0, 0 recv 0, 2 write 5", ""},
		{"0 go 1, 0 go 2, 0 send 0, 1 recv 0, 1 write 5, 2 send 0, 0 recv 0, 2 write 5", "5: w104 w107"},         // its EvSend is behind none's EvRecv
		{"0 go 1, 0 go 2, 0 go 3, 0 send 0, 1 write 5, 1 recv 0, 2 send 0, 3 recv 0, 2 write 5", "5: w104 w108"}, // nor is that of the one before
	})
}

// TestAnyPlaces: places and bytes of any numbers.
func TestAnyPlaces(t *testing.T) {
	checkRaces(t, nil, []raced{
		{"0 go 1, 0 write greatest, 0 write least, 0 read -1, 1 write -1, 1 read least, 1 write greatest", "-9223372036854775808: w102 r105, -1: r103 w104, 9223372036854775807: w101 w106"},
	})
	for _, at := range anyNumbers {
		for _, other := range anyNumbers {
			trace := traced("0 go 1, 0 read 5, 1 read 5, 1 write 5")
			trace[1].At, trace[3].At = at, other
			l := enough(t, trace, nil).Races()
			if want := (api.Race{Place: 5, First: at, Second: other, SecondW: true}); len(l) != 1 || l[0] != want {
				t.Error(l, want)
			}
		}
	}
}
