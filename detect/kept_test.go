package detect_test

import (
	"fmt"
	"math/rand"
	"slices"
	"testing"

	"stockade/api"
	"stockade/detect"
)

// The tests of P19.1 on what is handed in and what is answered: nothing is changed, kept or shared.

// roomy is a copy of a list with elements behind it that are none of the list's.
func roomy[T any](list []T, behind ...T) []T {
	return append(slices.Clone(list), behind...)[:len(list)]
}

// whole tells a list with what stands in its spare room.
func whole[T any](list []T) string {
	return fmt.Sprint(list, list[:cap(list)])
}

// TestNothingIsChanged: neither rooms nor traces, be these in form or not.
func TestNothingIsChanged(t *testing.T) {
	r := rand.New(rand.NewSource(199))
	for range many(3000) {
		trace := roomy(randomTrace(r, r.Intn(30)), api.Event{G: 9, Kind: 2, Obj: 3, At: 4}, api.Event{Kind: 1})
		rooms := roomy(randomRooms(r), 77, 78)
		if r.Intn(4) == 0 && len(trace) > 0 {
			trace[r.Intn(len(trace))].G = 8
		}
		before, roomsBefore := whole(trace), whole(rooms)
		detect.Need(trace, rooms)
		d := detect.New(arenaOf(t, r.Intn(30)), rooms)
		for _, e := range trace {
			d.Take(e)
			d.Races()
		}
		d.Close()
		if whole(trace) != before || whole(rooms) != roomsBefore {
			t.Fatalf("now it is %s, %s, and it was %s, %s", whole(trace), whole(rooms), before, roomsBefore)
		}
	}
}

// TestRoomsAreNotKept: what is done with the rooms behind New doesn't matter, nor what stands behind their end.
func TestRoomsAreNotKept(t *testing.T) {
	r := rand.New(rand.NewSource(200))
	for range many(2000) {
		trace, rooms := randomTrace(r, 30), randomRooms(r)
		handed := roomy(rooms, 1, 2, 3, 4, 5, 6, 7)
		p := newPair(arenaOf(t, 60), &shelf{pages: make([]int, 60)}, handed)
		p.model.rooms = rooms
		if a, _ := detect.Need(trace, handed); a != needed(trace, rooms) {
			t.Fatal(told(trace), rooms, a)
		}
		for _, e := range trace {
			for i := range handed[:cap(handed)] {
				handed[:cap(handed)][i] = r.Intn(9)
			}
			p.take(t, e)
		}
	}
}

// TestOwnAnswers: races that were answered aren't changed by later events, nor what is answered later by what is done with them.
func TestOwnAnswers(t *testing.T) {
	trace := traced("0 go 1, 0 write 5, 1 write 5, 0 write 4, 0 write 6, 1 write 6, 1 write 4, 0 write 7, 1 read 7")
	d := detect.New(arenaOf(t, plenty), nil)
	var answers [][]api.Race
	var texts []string
	for i, e := range trace {
		if err := d.Take(e); err != nil {
			t.Fatal(err)
		}
		answers = append(answers, d.Races())
		texts = append(texts, racesText(d.Races()))
		spoilt := d.Races()
		spoilt = spoilt[:cap(spoilt)]
		for k := range spoilt {
			spoilt[k] = api.Race{Place: -77}
		}
		checkFound(t, d, trace[:i+1], nil)
	}
	d.Close()
	for i, l := range answers {
		if racesText(l) != texts[i] {
			t.Errorf("now it is %s, and it was %s", racesText(l), texts[i])
		}
	}
	if got := racesText(d.Races()); got != "4: w103 w106, 5: w101 w102, 6: w104 w105, 7: w107 r108" {
		t.Error(got)
	}
}

// TestNilAndEmptyRooms mean the same, as do rooms of 0 and below that aren't told.
func TestNilAndEmptyRooms(t *testing.T) {
	r := rand.New(rand.NewSource(201))
	for range many(1000) {
		trace := randomTrace(r, r.Intn(30))
		want, _ := detect.Need(trace, nil)
		for _, rooms := range [][]int{{}, {0}, {0, 0, 0, 0}, {-1, -5}} {
			n, err := detect.Need(trace, rooms)
			d := enough(t, trace, rooms)
			if n != want || err != nil || d.Pages() != want || racesText(d.Races()) != racesText(enough(t, trace, nil).Races()) {
				t.Fatalf("%s, rooms %v: %d, %v, %d, want %d", told(trace), rooms, n, err, d.Pages(), want)
			}
		}
	}
}

// TestSameAgain: what is answered hangs on what was told alone, not on the arena's pages that are free.
func TestSameAgain(t *testing.T) {
	r := rand.New(rand.NewSource(202))
	for range many(300) {
		c := randomCast(r)
		trace := c.run(t, 60)
		want := racesText(enough(t, trace, c.rooms).Races())
		for range 3 {
			marks := make([]byte, 200)
			for i := range marks {
				marks[i] = "...........x"[r.Intn(12)]
			}
			first, _ := used(t, string(marks))
			p := newPair(first.arena, first.model.shelf, c.rooms)
			for _, e := range trace {
				if err := p.take(t, e); err != nil {
					t.Fatal(err)
				}
			}
			if got := racesText(p.Races()); got != want {
				t.Fatalf("%s, rooms %v\n got %s\nwant %s", told(trace), c.rooms, got, want)
			}
		}
	}
}
