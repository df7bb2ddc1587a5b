package detect_test

import (
	"fmt"
	"math/rand"
	"slices"
	"strings"
	"testing"

	"stockade/api"
	"stockade/comp"
	"stockade/detect"
	"stockade/kind"
	"stockade/order"
	"stockade/sem"
	"stockade/vm"
)

// The tests of P19.2 on the events of runs, of programs and of their codes.

// checkRun holds the detector's answers to a run's trace against layer 18's, behind each event, in an arena with enough pages; and then in ones of each number of pages.
func checkRun(t *testing.T, trace []api.Event, rooms []int) {
	t.Helper()
	var needs []int
	d := detect.New(arenaOf(t, 254), rooms)
	for i, e := range trace {
		if err := d.Take(e); err != nil || d.Taken() != i+1 {
			t.Fatalf("%s, rooms %v: %v, %d taken", told(trace[:i+1]), rooms, err, d.Taken())
		}
		checkFound(t, d, trace[:i+1], rooms)
		n, err := detect.Need(trace[:i+1], rooms)
		if n != d.Pages() || err != nil {
			t.Fatalf("%s, rooms %v: Need = %d, %v, and it has %d pages", told(trace[:i+1]), rooms, n, err, d.Pages())
		}
		needs = append(needs, n)
	}
	for pages := range d.Pages() + 1 {
		checkFewer(t, pages, trace, rooms, needs)
	}
}

// checkFound asks for the races of what was taken, field by field.
func checkFound(t *testing.T, d *detect.Detector, took []api.Event, rooms []int) {
	t.Helper()
	want, err := order.Races(took, rooms)
	if got := d.Races(); err != nil || !slices.Equal(got, want) {
		t.Fatalf("%s, rooms %v\n got %s\nwant %s, %v", told(took), rooms, racesText(got), racesText(want), err)
	}
}

// checkFewer asks that the first event that is refused is the one at which more pages are needed than there are.
func checkFewer(t *testing.T, pages int, trace []api.Event, rooms, needs []int) {
	t.Helper()
	d := detect.New(arenaOf(t, pages), rooms)
	for i, e := range trace {
		err := d.Take(e)
		if needs[i] <= pages {
			if err != nil {
				t.Fatalf("%s, rooms %v, in %d pages: %v", told(trace[:i+1]), rooms, pages, err)
			}
			continue
		}
		if err != api.ErrArena || d.Taken() != i {
			t.Fatalf("%s, rooms %v, in %d pages: %v", told(trace[:i+1]), rooms, pages, err)
		}
		checkFound(t, d, trace[:i], rooms)
		return
	}
	checkFound(t, d, trace, rooms)
}

// add counts what a run's trace had.
func (c tally) add(trace []api.Event, rooms []int) {
	gos := map[int]int{}
	for i, e := range trace {
		c[kindNames[e.Kind]]++
		gos[e.G]++
		if e.Kind == api.EvSend && i+1 < len(trace) && roomOf(rooms, e.Obj) == 0 {
			c["handed over"]++
		}
		if e.Kind == api.EvRead && slices.Contains(wants(trace[:i], e, rooms), 1) && twoRead(trace[:i+1], e.Obj) && !twoRead(trace[:i], e.Obj) {
			c["second page"]++
		}
	}
	c[fmt.Sprint(len(gos), " goroutines")]++
	races, _ := order.Races(trace, rooms)
	for _, r := range races {
		c["race "+map[bool]string{true: "w", false: "r"}[r.FirstW]+map[bool]string{true: "w", false: "r"}[r.SecondW]]++
	}
	if len(races) == 0 {
		c["no race"]++
	}
}

// played is the events of a text's run, which the program and its code must do alike, and the rooms of its channels.
func played(t *testing.T, text string, picks []int, fuel int) ([]api.Event, []int) {
	t.Helper()
	p, bad := kind.Build(text)
	if bad.Err != nil {
		t.Fatalf("%s: %v", text, bad)
	}
	c, bad := comp.Build(text)
	if bad.Err != nil {
		t.Fatalf("%s: %v", text, bad)
	}
	var rooms []int
	for _, ch := range p.Chans {
		rooms = append(rooms, ch.Room)
	}
	events, _, err := sem.Play(p, picks, fuel)
	coded, _, err2 := vm.Play(c, picks, fuel)
	if err != nil || err2 != nil || !slices.Equal(events, coded) {
		t.Fatalf("%s: %v %v %v %v", text, events, coded, err, err2)
	}
	return events, rooms
}

// TestTexts: small programs, by many picks: whether a race is found.
func TestTexts(t *testing.T) {
	const always, never, sometimes = "always", "never", "sometimes"
	for _, x := range []struct{ text, races string }{
		{"var x int; func w() { x = 1; } func main() { go w(); x = 2; }", always},
		{"var x int; mutex m; func w() { lock m; x = 1; unlock m; } func main() { go w(); lock m; x = 2; unlock m; }", never},
		{"var x int; mutex m; mutex n; func w() { lock m; x = 1; unlock m; } func main() { go w(); lock n; x = 2; unlock n; }", always},
		{"var x int; chan c[0] int; func w() { x = 1; send c, 0; } func main() { go w(); v := 0; recv c, v; x = 2; }", never},
		{"var x int; chan c[1] int; func w() { x = 1; send c, 0; } func main() { go w(); v := 0; recv c, v; x = 2; }", never},
		{"var x int; chan c[0] int; func w() { v := 0; recv c, v; x = 1; } func main() { go w(); send c, 0; x = 2; }", always},
		{"var x int; chan c[0] int; func w() { x = 1; v := 0; recv c, v; } func main() { go w(); send c, 0; x = 2; }", never},
		{"var x int; chan c[1] int; func w() { x = 1; v := 0; recv c, v; } func main() { go w(); send c, 0; x = 2; }", always},
		{"var x int; chan c[1] int; func w() { x = 1; v := 0; recv c, v; } func main() { go w(); send c, 0; send c, 0; x = 2; }", never},
		{"var x int; chan c[2] int; func w() { x = 1; v := 0; recv c, v; } func main() { go w(); send c, 0; send c, 0; x = 2; }", always},
		{"var x int; atomic k; func w() { x = 1; put k, 1; } func main() { go w(); v := 0; while v == 0 { get k, v; } x = 2; }", never},
		{"var x int; atomic k; func w() { x = 1; put k, 1; } func main() { go w(); v := 0; get k, v; if v == 1 { x = 2; } }", never},
		{"var x int; atomic k; func w() { x = 1; add k, 1; } func main() { go w(); add k, 1; x = 2; }", sometimes},
		{"var x int; func w() { x = 1; } func main() { x = 2; go w(); }", never},
		{"var x int; var y int; func w() { y = x; } func main() { x = 2; go w(); v := x; }", never},
		{"var x int; var y int; func w() { y = x; } func main() { go w(); go w(); }", always},
		{"var x int; var y int; var z int; func v() { y = x; } func w() { z = x; } func main() { go v(); go w(); x = 1; }", always},
		{"var a[2] int; func w(i int) { a[i] = i; } func main() { go w(0); go w(1); }", never},
		{"var a[2] int; func w(i int) { a[i % 2] = i; } func main() { go w(0); go w(2); }", always},
		{"mutex m; func w() { lock m; unlock m; } func main() { go w(); lock m; unlock m; }", never},
	} {
		raced, calm := 0, 0
		for n := range many(640) {
			var picks []int
			for i := range 6 {
				picks = append(picks, n>>i&1)
			}
			picks = append(picks, n>>6&3)
			trace, rooms := played(t, x.text, picks, 30)
			checkRun(t, trace, rooms)
			if races, _ := order.Races(trace, rooms); len(races) > 0 {
				raced++
			} else {
				calm++
			}
		}
		got := sometimes
		if raced == 0 {
			got = never
		} else if calm == 0 {
			got = always
		}
		if got != x.races {
			t.Errorf("%s: races %d of %d times", x.text, raced, raced+calm)
		}
	}
}

// A writer writes random texts of programs whose goroutines meet often.
type writer struct {
	*rand.Rand
	strings.Builder
	funcs int
}

func (w *writer) say(format string, args ...any) {
	fmt.Fprintf(w, format, args...)
}

func (w *writer) one(list ...string) string {
	return list[w.Intn(len(list))]
}

func randomText(r *rand.Rand) string {
	w := &writer{Rand: r, funcs: 1 + r.Intn(3)}
	w.say("var x int; var y int; var a[3] int; mutex m; mutex n; chan c[%d] int; chan d[%d] int; atomic k; atomic l; ", r.Intn(3), r.Intn(4))
	for i := range w.funcs {
		w.say("func w%d() { v := 1; ", i)
		w.stmts(1+r.Intn(6), 2)
		w.say("} ")
	}
	w.say("func main() { v := 0; ")
	for range 1 + r.Intn(3) {
		w.say("go w%d(); ", r.Intn(w.funcs))
		w.stmts(r.Intn(3), 2)
	}
	w.stmts(r.Intn(6), 2)
	w.say("}")
	return w.String()
}

func (w *writer) stmts(many, deep int) {
	for range many {
		w.stmt(deep)
	}
}

func (w *writer) stmt(deep int) {
	target, value := w.one("x", "y", "a[0]", "a[1]", "a[2]", "v"), w.one("x", "y", "a[0]", "a[1]", "a[2]", "v", "1", "x + 1", "a[v % 2 * 0]")
	switch c := w.Intn(16); {
	case c < 5:
		w.say("%s = %s; ", target, value)
	case c < 8 && deep > 0:
		m := w.one("m", "n")
		w.say("lock %s; ", m)
		w.stmts(1+w.Intn(2), deep-1)
		w.say("unlock %s; ", m)
	case c < 10:
		w.say("send %s, %s; ", w.one("c", "d"), value)
	case c < 12:
		w.say("recv %s, %s; ", w.one("c", "d"), target)
	case c < 14:
		w.say("%s %s, %s; ", w.one("put", "add"), w.one("k", "l"), value)
	case c < 15 && deep > 0:
		w.say("%s %s < 2 { ", w.one("if", "while"), w.one("x", "v", "y"))
		w.stmts(1+w.Intn(2), deep-1)
		w.say("v = v + 1; } ")
	case c < 15 && w.Intn(6) == 0:
		w.say("go w%d(); ", w.Intn(w.funcs))
	default:
		w.say("get %s, %s; ", w.one("k", "l"), target)
	}
}

func randomPicks(r *rand.Rand) []int {
	var picks []int
	for range r.Intn(12) {
		picks = append(picks, r.Intn(8))
	}
	return picks
}

// TestRandomRuns: random programs by random picks.
func TestRandomRuns(t *testing.T) {
	r := rand.New(rand.NewSource(196))
	counts := tally{}
	for range many(2000) {
		text := randomText(r)
		for range 2 {
			trace, rooms := played(t, text, randomPicks(r), 5+r.Intn(50))
			checkRun(t, trace, rooms)
			counts.add(trace, rooms)
		}
	}
	counts.need(t, many(500), kindNames[1:]...)
	counts.need(t, many(100), "race ww", "race rw", "race wr", "no race", "second page", "handed over")
}

// TestLongRuns: programs whose goroutines go on for thousands of events.
func TestLongRuns(t *testing.T) {
	r := rand.New(rand.NewSource(197))
	for _, text := range []string{
		"var x int; func w() { while true { x = x + 1; } } func main() { go w(); go w(); while true { x = 2; } }",
		"var x int; mutex m; func w() { while true { lock m; x = x + 1; unlock m; } } func main() { go w(); go w(); while true { lock m; x = 2; unlock m; } }",
		"var x int; var y int; chan c[0] int; func w() { while true { x = x + 1; send c, 1; y = 1; } } func main() { go w(); v := 0; while true { recv c, v; x = 2; } }",
		"var x int; chan c[0] int; chan d[0] int; func w() { v := 0; while true { x = x + 1; send c, 1; recv d, v; } } func main() { go w(); v := 0; while true { recv c, v; x = 2; send d, 1; } }",
		"var a[5] int; chan c[5] int; func w() { i := 0; while true { a[i % 5] = i; send c, i; i = i + 1; } } func main() { go w(); v := 0; s := 0; while true { recv c, v; s = a[v % 5]; } }",
		"var a[6] int; chan c[5] int; func w() { i := 0; while true { a[i % 6] = i; send c, i; i = i + 1; } } func main() { go w(); v := 0; s := 0; while true { recv c, v; s = a[v % 6]; } }",
		"var x int; atomic k; func w() { while true { add k, 1; x = 1; } } func main() { go w(); v := 0; while true { get k, v; v = x; } }",
	} {
		for range 3 {
			trace, rooms := played(t, text, randomPicks(r), 3000)
			d := detect.New(arenaOf(t, 50), rooms)
			for i, e := range trace {
				if err := d.Take(e); err != nil {
					t.Fatalf("%s: %v", text, err)
				}
				if i%100 == 0 || i < 50 || i > len(trace)-3 {
					checkFound(t, d, trace[:i+1], rooms)
				}
			}
			if n, err := detect.Need(trace, rooms); n != d.Pages() || err != nil {
				t.Errorf("%s: Need = %d, %v, and it has %d pages", text, n, err, d.Pages())
			}
		}
	}
}
