package detect_test

import (
	"math"
	"slices"
	"testing"

	"stockade/api"
	"stockade/detect"
)

// The tests of P19.1 on events that aren't in form, and of Need on traces that have one.

var anyNumbers = []int{math.MinInt, math.MinInt + 1, -9, -1, 0, 1, 2, 7, 8, 12, 13, 127, 128, 1 << 31, math.MaxInt - 1, math.MaxInt}

// checkRefused tells such an event to a detector behind each beginning of a trace: nothing is done, and it isn't broken.
func checkRefused(t *testing.T, e api.Event) {
	t.Helper()
	trace := traced("0 write 0, 0 go 1, 0 read 0, 1 read 0, 1 unlock 3, 0 send 0, 1 recv 0")
	for _, pages := range []int{0, 1, 3, plenty} {
		p := newPair(arenaOf(t, pages), &shelf{pages: make([]int, pages)}, []int{2})
		for i := range len(trace) + 1 {
			was := p.Broken()
			if err := p.take(t, e); !was && err != api.ErrRange || was && err != api.ErrState || p.Broken() != was {
				t.Fatalf("%v behind %s in %d pages: %v", e, told(trace[:i]), pages, err)
			}
			wrong := append(slices.Insert(slices.Clone(trace), i, e), api.Event{G: 5, Kind: api.EvEnd})
			if n, err := detect.Need(wrong, []int{2}); n != 0 || err != api.ErrRange {
				t.Fatalf("Need(%v) = %d, %v", wrong, n, err)
			}
			if i < len(trace) {
				p.take(t, trace[i])
			}
		}
	}
}

// checkTakes asks that an event is taken, in just as many pages as it needs.
func checkTakes(t *testing.T, e api.Event) {
	t.Helper()
	trace := append(traced("0 write 0, 0 read 1, 1 put 0"), e)
	checkTaken(t, trace, nil)
	d := detect.New(arenaOf(t, plenty), nil)
	for i, e := range trace {
		if err := d.Take(e); err != nil || d.Taken() != i+1 {
			t.Errorf("%v: %v", e, err)
		}
	}
}

func TestFormOfG(t *testing.T) {
	for kind := api.EvRead; kind <= api.EvEnd; kind++ {
		for _, g := range anyNumbers {
			if e := (api.Event{G: g, Kind: kind, Obj: 1}); g >= 0 && g < api.MaxGo {
				checkTakes(t, e)
			} else {
				checkRefused(t, e)
			}
		}
	}
}

func TestFormOfKind(t *testing.T) {
	for _, kind := range append(slices.Clone(anyNumbers), 3, 4, 5, 6, 9, 10, 11, 14) {
		if e := (api.Event{G: 1, Kind: kind, Obj: 1}); kind >= 1 && kind <= 12 {
			checkTakes(t, e)
		} else {
			checkRefused(t, e)
		}
	}
}

func TestFormOfObj(t *testing.T) {
	for kind := api.EvRead; kind <= api.EvEnd; kind++ {
		for _, obj := range anyNumbers {
			if e := (api.Event{G: 2, Kind: kind, Obj: obj}); kind != api.EvGo || obj >= 0 && obj < api.MaxGo {
				checkTakes(t, e)
			} else {
				checkRefused(t, e)
			}
		}
	}
}

func TestFormOfAt(t *testing.T) {
	for kind := api.EvRead; kind <= api.EvEnd; kind++ {
		for _, at := range anyNumbers {
			checkTakes(t, api.Event{G: 2, Kind: kind, At: at})
		}
	}
}

// TestGoesOnBehindWrongForm: what was refused so is no part of the trace.
func TestGoesOnBehindWrongForm(t *testing.T) {
	d := detect.New(arenaOf(t, 4), nil)
	for _, e := range traced("0 go 1, 0 write 3, 1 write 3") {
		for _, wrong := range []api.Event{{}, {G: 8, Kind: 1}, {G: -1, Kind: 1}, {Kind: 13, Obj: 3}, {Kind: api.EvGo, Obj: 8}, {Kind: api.EvGo, Obj: -1}} {
			if err := d.Take(wrong); err != api.ErrRange || d.Broken() {
				t.Error(wrong, err)
			}
		}
		if err := d.Take(e); err != nil {
			t.Error(e, err)
		}
	}
	if got := racesText(d.Races()); got != "3: w101 w102" || d.Taken() != 3 || d.Pages() != 3 {
		t.Error(got, d.Taken(), d.Pages())
	}
}

func TestNeedOfNothing(t *testing.T) {
	for _, trace := range [][]api.Event{nil, {}} {
		for _, rooms := range [][]int{nil, {}, {1}, {-1, 8}} {
			if n, err := detect.Need(trace, rooms); n != 0 || err != nil {
				t.Error(n, err)
			}
		}
	}
}

// TestNeedOfMany: more pages than any arena has.
func TestNeedOfMany(t *testing.T) {
	const many = 5000
	var trace []api.Event
	for i := range many {
		trace = append(trace, api.Event{G: i % 8, Kind: api.EvRead, Obj: i}, api.Event{G: (i + 1) % 8, Kind: api.EvRead, Obj: i})
		trace = append(trace, api.Event{Kind: api.EvUnlock, Obj: -i}, api.Event{Kind: api.EvGet, Obj: i}, api.Event{Kind: api.EvSend, Obj: i})
	}
	if n, err := detect.Need(trace, slices.Repeat([]int{8}, many)); n != 8+many*(2+1+1+8) || err != nil {
		t.Error(n, err)
	}
	trace[len(trace)-1].G = 8
	if n, err := detect.Need(trace, nil); n != 0 || err != api.ErrRange {
		t.Error(n, err)
	}
}

// TestGreatRooms: of rooms above MaxRoom nothing is asked but that every call ends.
func TestGreatRooms(t *testing.T) {
	for _, room := range []int{9, 255, 256, 257, 1 << 31, math.MaxInt / 16, math.MaxInt/16 + 1, math.MaxInt - 1, math.MaxInt} {
		for _, pages := range []int{0, 1, 9, 20, 250} {
			a := arenaOf(t, pages)
			d := detect.New(a, []int{room})
			for _, e := range traced("0 send 0, 1 recv 0, 0 send 0, 0 write 0, 1 write 0") {
				d.Take(e)
				if d.Pages() != a.Used() {
					t.Error(room, d.Pages(), a.Used())
				}
			}
			d.Close()
			if a.Used() != 0 {
				t.Error(room, a.Used())
			}
		}
		detect.Need(traced("0 send 0, 1 recv 0, 0 send 0, 0 write 0, 1 write 0"), []int{room, room})
	}
}
