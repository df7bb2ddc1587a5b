package detect_test

import (
	"fmt"
	"math"
	"strings"
	"testing"

	"stockade/api"
	"stockade/detect"
)

// The tests of P19.1 on what needs pages, and when: each by itself, and several at once.

// counted are a trace and how many pages are allocated behind each of its events.
type counted struct{ trace, want string }

// checkPages asks for the pages behind each event, and for all else that the model tells, in arenas of each number of pages.
func checkPages(t *testing.T, text string, rooms []int, want string) {
	t.Helper()
	trace := traced(text)
	d := detect.New(arenaOf(t, plenty), rooms)
	var got []string
	for i, e := range trace {
		if err := d.Take(e); err != nil {
			t.Fatalf("%s: %v at %d", text, err, i)
		}
		got = append(got, fmt.Sprint(d.Pages()))
	}
	if list := strings.Join(got, " "); list != want {
		t.Errorf("%s, rooms %v\n got %s\nwant %s", text, rooms, list, want)
	}
	checkTaken(t, trace, rooms)
}

func checkAllPages(t *testing.T, list []counted) {
	t.Helper()
	for _, x := range list {
		checkPages(t, x.trace, nil, x.want)
	}
}

func TestExamples(t *testing.T) {
	checkPages(t, "0 write 0, 0 go 1, 1 read 0", nil, "2 3 3")
	trace := traced("0 write 0, 0 go 1, 1 read 0")
	d := detect.New(arenaOf(t, 3), nil)
	for _, e := range trace {
		if err := d.Take(e); err != nil {
			t.Error(err)
		}
	}
	if l := d.Races(); len(l) != 0 || d.Pages() != 3 || d.Taken() != 3 || d.Broken() {
		t.Error(l, d.Pages(), d.Taken(), d.Broken())
	}
	d = detect.New(arenaOf(t, 2), nil)
	if d.Take(trace[0]) != nil || d.Take(trace[1]) != api.ErrArena || d.Pages() != 2 || d.Taken() != 1 || !d.Broken() {
		t.Error("an arena of 2 pages")
	}
	if n, err := detect.Need(trace, nil); n != 3 || err != nil {
		t.Error(n, err)
	}
}

func TestPagesOfGoroutines(t *testing.T) {
	checkAllPages(t, []counted{
		{"0 turn", "1"},
		{"7 end", "1"},
		{"0 turn, 0 turn, 0 end", "1 1 1"},
		{"0 turn, 1 turn, 2 turn, 3 turn, 4 turn, 5 turn, 6 turn, 7 turn, 0 turn", "1 2 3 4 5 6 7 8 8"},
		{"0 go 1", "2"},
		{"0 go 1, 1 turn, 1 go 0, 0 go 1", "2 2 2 2"},
		{"0 go 0, 0 turn", "1 1"}, // of itself
		{"1 turn, 0 go 1", "1 2"}, // of one that did events already
		{"0 turn, 0 go 1, 1 turn, 0 go 2", "1 2 2 3"},
		{"0 go 1, 0 go 1, 2 go 1, 1 turn", "2 2 3 3"}, // several of one
		{"0 go 1, 2 go 3, 1 go 3, 3 go 1, 4 go 4, 4 end", "2 4 4 4 5 5"},
		{"0 go 1, 0 go 2, 0 go 3, 0 go 4, 0 go 5, 0 go 6, 0 go 7", "2 3 4 5 6 7 8"},
		{"0 turn 1, 0 end 2, 0 lock 3, 3 turn, 1 turn", "1 1 1 2 3"}, // other kinds with such an object
	})
}

func TestPagesOfMutexes(t *testing.T) {
	checkAllPages(t, []counted{
		{"0 lock 3", "1"},
		{"0 unlock 3", "2"},
		{"0 lock 3, 0 unlock 3, 0 lock 3, 0 unlock 3", "1 2 2 2"},
		{"0 unlock 3, 1 unlock 3, 1 lock 3, 1 unlock 4, 0 unlock 4", "2 3 3 4 4"},
		{"0 lock 1, 0 lock 2, 0 lock 3, 0 unlock 2, 0 unlock -2", "1 1 1 2 3"},
		{"0 unlock least, 0 unlock greatest, 0 unlock 0, 0 unlock -1, 0 unlock greatest", "2 3 4 5 5"},
	})
}

func TestPagesOfAtomics(t *testing.T) {
	for _, kind := range []string{"get", "put", "add"} {
		for _, other := range []string{"get", "put", "add"} {
			text := strings.NewReplacer("A", kind, "B", other)
			checkPages(t, text.Replace("0 A 3, 0 B 3, 1 B 3, 1 A 4, 0 B 4, 0 A 3"), nil, "2 2 3 4 4 4")
			checkPages(t, text.Replace("0 turn, 0 A least, 0 B greatest, 0 A -1, 0 B 0, 1 B least"), nil, "1 2 3 4 5 6")
		}
	}
}

func TestPagesOfChannels(t *testing.T) {
	for _, kind := range []string{"send", "recv"} {
		text := strings.NewReplacer("A", kind, "B", map[string]string{"send": "recv", "recv": "send"}[kind])
		for room := math.MinInt; room <= api.MaxRoom; room = nextRoom(room) {
			size := max(room, 1)
			want := fmt.Sprint(1+size, 1+size, 1+size, 2+size, 2+size)
			checkPages(t, text.Replace("0 A 0, 0 B 0, 0 A 0, 1 A 0, 1 B 0"), []int{room}, want)
			want = fmt.Sprint(1, 1+size, 2+size, 2+size, 2+size, 3+size)
			checkPages(t, text.Replace("0 turn, 0 A 1, 0 A 2, 0 B 1, 0 B 2, 0 B 0"), []int{-5, room}, want)
		}
		checkPages(t, text.Replace("0 A 0, 0 A 1, 0 A 2, 0 A 3, 0 B 1, 0 B 3"), []int{2, 0, 8, 1}, "3 4 12 13 13 13")
		checkPages(t, text.Replace("0 A -1, 0 A least, 0 A greatest, 0 A 4, 0 A 3, 0 B -1"), []int{8, 8, 8, 8}, "2 3 4 5 13 13")
		checkPages(t, text.Replace("0 A 0, 0 B 0, 1 A 1, 1 B 0"), nil, "2 2 4 4")
	}
}

// nextRoom goes through the rooms that are asked: the least, a few below 0, and all up to MaxRoom.
func nextRoom(room int) int {
	if room < -2 {
		return -2
	}
	return room + 1
}

func TestPagesOfPlaces(t *testing.T) {
	checkAllPages(t, []counted{
		{"0 read 5", "2"},
		{"0 write 5", "2"},
		{"0 read 5, 0 write 5, 0 read 5", "2 2 2"},
		{"0 write 5, 1 write 5, 2 write 5", "2 3 4"},
		{"0 write 5, 0 write 6, 1 read 5, 1 write 7", "2 3 4 5"},
		{"0 read 0, 0 read -1, 0 read least, 0 write greatest, 0 write 1000, 0 read greatest", "2 3 4 5 6 6"},
	})
}

// TestSecondPages: of a place, when a second goroutine reads it since its last EvWrite, or from the beginning.
func TestSecondPages(t *testing.T) {
	const begin = "0 turn, 1 turn, 2 turn, " // so that the goroutines have their pages
	for _, x := range []counted{
		{"0 read 5, 1 read 5", "4 5"},
		{"1 read 5, 0 read 5", "4 5"},
		{"7 read 5, 0 read 5", "5 6"},
		{"0 read 5, 0 read 5, 1 read 5", "4 4 5"}, // the first one reads again
		{"0 read 5, 0 read 5, 0 read 5", "4 4 4"},
		{"0 read 5, 1 read 5, 0 read 5, 1 read 5, 2 read 5", "4 5 5 5 5"}, // a third one needs none
		{"0 read 5, 1 read 6, 1 read 5, 0 read 6", "4 5 6 7"},             // each place by itself
		{"0 write 5, 1 read 5", "4 4"},                                    // who writes doesn't read
		{"0 write 5, 0 read 5, 1 read 5", "4 4 5"},                        // and does, if it reads too
		{"0 write 5, 1 read 5, 0 read 5", "4 4 5"},
		{"0 write 5, 1 read 5, 2 read 5", "4 4 5"},
		{"0 read 5, 0 write 5, 1 read 5", "4 4 4"}, // a write between the two
		{"0 read 5, 1 write 5, 1 read 5", "4 4 4"},
		{"0 read 5, 2 write 5, 1 read 5", "4 4 4"},
		{"0 read 5, 2 write 5, 1 read 5, 0 read 5", "4 4 4 5"},
		{"0 read 5, 2 write 5, 1 read 5, 2 read 5", "4 4 4 5"},
		{"0 read 5, 0 write 6, 1 read 5", "4 5 6"}, // of another place
		{"0 read 5, 0 write 5, 0 write 5, 1 read 5, 1 write 5, 0 read 5, 0 read 5", "4 4 4 4 4 4 4"},
		{"0 read 5, 0 write 5, 1 read 5, 1 write 5, 2 read 5, 2 read 5, 0 read 5", "4 4 4 4 4 4 5"},
		{"0 read 5, 1 read 5, 0 write 5, 0 read 5, 1 read 5, 2 read 5", "4 5 5 5 5 5"}, // it keeps it
		{"0 read 5, 1 read 5, 2 write 5, 2 write 5, 1 read 5, 0 read 5, 0 write 5", "4 5 5 5 5 5 5"},
		{"0 read 5, 1 lock 5, 1 unlock 5, 1 read 5", "4 4 5 6"}, // what goroutines share doesn't matter
		{"0 read 5, 0 send 5, 1 recv 5, 1 read 5", "4 5 5 6"},
		{"0 write 5, 1 write 5, 2 read 5, 2 read 5, 1 read 5, 2 write 5", "4 4 4 4 5 5"}, // nor do races
	} {
		checkPages(t, begin+x.trace, nil, "1 2 3 "+x.want)
	}
}

// TestPagesAtOnce: events that need pages of several kinds.
func TestPagesAtOnce(t *testing.T) {
	for _, x := range []struct {
		trace string
		rooms []int
		want  string
	}{
		{"0 go 1, 2 go 3, 4 go 4", nil, "2 4 5"},
		{"0 unlock 1, 1 unlock 2, 2 put 1, 3 get 2, 4 add 3", nil, "2 4 6 8 10"},
		{"0 send 1, 1 recv 2, 2 send 3, 3 recv 0", []int{8, 3, 0}, "4 6 8 17"},
		{"0 read 5, 1 read 5", nil, "2 4"}, // a goroutine's, and the second one of a place
		{"0 read 5, 0 read 6, 1 read 5, 2 read 6, 3 read 5", nil, "2 3 5 7 8"},
		{"0 write 5, 1 write 6, 2 read 7, 2 write 5, 1 read 5, 0 read 5", nil, "2 4 6 6 6 7"},
	} {
		checkPages(t, x.trace, x.rooms, x.want)
	}
}

// TestOneNumber: a mutex, a channel, an atomic, a place and a goroutine of one number have pages of their own.
func TestOneNumber(t *testing.T) {
	checkPages(t, "0 go 3, 0 unlock 3, 0 send 3, 0 put 3, 0 write 3, 3 turn, 3 read 3, 0 read 3, 3 get 3, 3 recv 3, 3 unlock 3", []int{0, 0, 0, 4}, "2 3 7 8 9 9 9 10 10 10 10")
}

// TestNoPages: what needs none but its goroutine's.
func TestNoPages(t *testing.T) {
	for _, kind := range []string{"lock", "turn", "end"} {
		for _, obj := range []string{"0", "1", "-1", "least", "greatest"} {
			checkPages(t, fmt.Sprintf("0 turn, 0 %s %s, 0 %s %s, 1 %s %s", kind, obj, kind, obj, kind, obj), []int{5, 5}, "1 1 1 2")
		}
	}
}
