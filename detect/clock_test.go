package detect_test

import (
	"slices"
	"testing"

	"stockade/api"
	"stockade/detect"
)

// The tests of P19.1 on goroutines of MaxCount events, of which no more are taken.

// busy is a detector, in an arena of so many pages, that took so many EvTurns of goroutine 0.
func busy(t *testing.T, pages, count int) *detect.Detector {
	t.Helper()
	d := detect.New(arenaOf(t, pages), []int{1})
	for range count {
		if err := d.Take(api.Event{Kind: api.EvTurn}); err != nil {
			t.Fatal(err, d.Taken())
		}
	}
	return d
}

func TestMaxCount(t *testing.T) {
	for _, last := range traced("0 turn, 0 end, 0 go 0, 0 go 1, 0 lock 0, 0 unlock 0, 0 put 0, 0 send 0, 0 recv 0, 0 read 0, 0 write 0") {
		for _, pages := range []int{1, plenty} { // ErrClock is asked first, where ErrArena would be too
			d := busy(t, pages, api.MaxCount)
			if d.Take(api.Event{Kind: 13}) != api.ErrRange || d.Broken() {
				t.Error("form is asked ahead of clocks")
			}
			if err := d.Take(last); err != api.ErrClock || !d.Broken() || d.Taken() != api.MaxCount || d.Pages() != 1 {
				t.Errorf("%v: %v, %v, %d, %d", last, err, d.Broken(), d.Taken(), d.Pages())
			}
			for _, e := range []api.Event{last, {G: 1, Kind: api.EvTurn}, {Kind: 13}, {G: -1}} {
				if err := d.Take(e); err != api.ErrState || d.Taken() != api.MaxCount || d.Pages() != 1 {
					t.Errorf("%v: %v", e, err)
				}
			}
		}
	}
}

// TestLastCount: the event that makes it MaxCount is taken.
func TestLastCount(t *testing.T) {
	for _, last := range traced("0 turn, 0 end, 0 go 1, 0 unlock 0, 0 send 0, 0 recv 0, 0 read 0, 0 write 0") {
		d := busy(t, plenty, api.MaxCount-1)
		if err := d.Take(last); err != nil || d.Broken() || d.Taken() != api.MaxCount {
			t.Error(last, err)
		}
		if err := d.Take(last); err != api.ErrClock {
			t.Error(last, err)
		}
	}
	d := busy(t, 1, api.MaxCount-1)
	if err := d.Take(traced("0 write 0")[0]); err != api.ErrArena || !d.Broken() || d.Taken() != api.MaxCount-1 {
		t.Error(err, d.Broken(), d.Taken())
	}
}

// TestCountsOfOthers: other goroutines' events are taken, whatever they know; what is refused for its form isn't counted.
func TestCountsOfOthers(t *testing.T) {
	d := busy(t, plenty, api.MaxCount-2)
	for _, e := range traced("0 unlock 0, 0 go 1, 1 lock 0, 1 unlock 0, 2 lock 0, 2 go 0") {
		for range 3 {
			d.Take(api.Event{G: e.G, Kind: 13})
		}
		if err := d.Take(e); err != nil {
			t.Error(e, err)
		}
	}
	for _, g := range []int{1, 2} {
		for range api.MaxCount - 2 {
			if err := d.Take(api.Event{G: g, Kind: api.EvTurn}); err != nil {
				t.Fatal(g, err)
			}
		}
	}
	if d.Taken() != 3*api.MaxCount {
		t.Error(d.Taken())
	}
	if err := d.Take(api.Event{G: 3, Kind: api.EvEnd}); err != nil {
		t.Error(err)
	}
	if err := d.Take(api.Event{G: 1, Kind: api.EvEnd}); err != api.ErrClock {
		t.Error(err)
	}
}

// TestBegunAgain: an EvGo of a goroutine that did events already, by another one or itself, leaves its count as it is.
func TestBegunAgain(t *testing.T) {
	for _, text := range []string{"1 go 0", "0 go 0"} {
		d := busy(t, plenty, api.MaxCount-1)
		for _, e := range traced(text + ", 1 go 0, 1 go 0") {
			if err := d.Take(e); err != nil {
				t.Error(text, err)
			}
		}
		if text == "1 go 0" && d.Take(api.Event{Kind: api.EvTurn}) != nil {
			t.Error("one fewer than MaxCount")
		}
		if err := d.Take(api.Event{Kind: api.EvTurn}); err != api.ErrClock {
			t.Error(text, err)
		}
	}
}

// TestRacesOfGreatCounts: races that are found with clocks at their ends, and stay found behind ErrClock.
func TestRacesOfGreatCounts(t *testing.T) {
	d := busy(t, plenty, api.MaxCount-3)
	for _, e := range traced("0 write 3, 0 unlock 0, 0 write 4, 1 lock 0, 1 write 3, 1 write 4") {
		if err := d.Take(e); err != nil {
			t.Error(e, err)
		}
	}
	if got := racesText(d.Races()); got != "4: w102 w105" {
		t.Error(got)
	}
	if err := d.Take(traced("0 write 3")[0]); err != api.ErrClock || racesText(d.Races()) != "4: w102 w105" {
		t.Error(err, d.Races())
	}
	d.Close()
	if racesText(d.Races()) != "4: w102 w105" {
		t.Error(d.Races())
	}
}

// TestNeedOfGreatCounts: a detector that has enough pages is broken by a clock all the same, and allocates nothing behind that.
func TestNeedOfGreatCounts(t *testing.T) {
	trace := slices.Repeat([]api.Event{{Kind: api.EvTurn}}, api.MaxCount-1)
	trace = append(trace, traced("0 write 3, 1 write 4, 0 read 5, 2 write 6")...)
	for last, want := range map[int]int{4: 1, 3: 2, 2: 4, 1: 4, 0: 4} {
		if n, err := detect.Need(trace[:len(trace)-last], nil); n != want || err != nil {
			t.Errorf("without the last %d: %d, %v, want %d", last, n, err, want)
		}
	}
	trace[len(trace)-1].Kind = 13
	if n, err := detect.Need(trace, nil); n != 0 || err != api.ErrRange {
		t.Error(n, err)
	}
}
