package order_test

import (
	"fmt"
	"math/rand"
	"slices"
	"strings"
	"testing"

	"stockade/api"
	"stockade/comp"
	"stockade/kind"
	"stockade/sem"
	"stockade/vm"
)

// The tests of both promises on the events of runs, of programs and of their codes.

// played is the events of a text's run, which the program and its code must do alike, and the rooms of its channels.
func played(t *testing.T, text string, picks []int, fuel int) ([]api.Event, []int) {
	t.Helper()
	p, bad := kind.Build(text)
	if bad.Err != nil {
		t.Fatalf("%s: %v", text, bad)
	}
	c, bad := comp.Build(text)
	if bad.Err != nil {
		t.Fatalf("%s: %v", text, bad)
	}
	var rooms []int
	for _, ch := range p.Chans {
		rooms = append(rooms, ch.Room)
	}
	events, _, err := sem.Play(p, picks, fuel)
	coded, _, err2 := vm.Play(c, picks, fuel)
	if err != nil || err2 != nil || !slices.Equal(events, coded) {
		t.Fatalf("%s: %v %v %v %v", text, events, coded, err, err2)
	}
	return events, rooms
}

// checkRun holds a run's trace against the model and P18.2.
func checkRun(t *testing.T, text string, picks []int, fuel int) *model {
	t.Helper()
	events, rooms := played(t, text, picks, fuel)
	checkOrder(t, events, rooms)
	return checkTrace(t, events, rooms)
}

// TestTexts: small programs, by many picks: whether there is a race.
func TestTexts(t *testing.T) {
	const always, never, sometimes = "always", "never", "sometimes"
	for _, x := range []struct{ text, races string }{
		{"var x int; func w() { x = 1; } func main() { go w(); x = 2; }", always},
		{"var x int; mutex m; func w() { lock m; x = 1; unlock m; } func main() { go w(); lock m; x = 2; unlock m; }", never},
		{"var x int; mutex m; mutex n; func w() { lock m; x = 1; unlock m; } func main() { go w(); lock n; x = 2; unlock n; }", always},
		{"var x int; chan c[0] int; func w() { x = 1; send c, 0; } func main() { go w(); v := 0; recv c, v; x = 2; }", never},
		{"var x int; chan c[1] int; func w() { x = 1; send c, 0; } func main() { go w(); v := 0; recv c, v; x = 2; }", never},
		{"var x int; chan c[0] int; func w() { v := 0; recv c, v; x = 1; } func main() { go w(); send c, 0; x = 2; }", always},
		{"var x int; chan c[0] int; func w() { x = 1; v := 0; recv c, v; } func main() { go w(); send c, 0; x = 2; }", never},
		{"var x int; chan c[1] int; func w() { x = 1; v := 0; recv c, v; } func main() { go w(); send c, 0; x = 2; }", always},
		{"var x int; chan c[1] int; func w() { x = 1; v := 0; recv c, v; } func main() { go w(); send c, 0; send c, 0; x = 2; }", never},
		{"var x int; chan c[2] int; func w() { x = 1; v := 0; recv c, v; } func main() { go w(); send c, 0; send c, 0; x = 2; }", always},
		{"var x int; atomic k; func w() { x = 1; put k, 1; } func main() { go w(); v := 0; while v == 0 { get k, v; } x = 2; }", never},
		{"var x int; atomic k; func w() { x = 1; put k, 1; } func main() { go w(); v := 0; get k, v; if v == 1 { x = 2; } }", never},
		{"var x int; atomic k; func w() { x = 1; add k, 1; } func main() { go w(); add k, 1; x = 2; }", sometimes},
		{"var x int; func w() { x = 1; } func main() { x = 2; go w(); }", never},
		{"var x int; var y int; func w() { y = x; } func main() { x = 2; go w(); v := x; }", never},
		{"var x int; var y int; func w() { y = x; } func main() { go w(); go w(); }", always},
		{"var a[2] int; func w(i int) { a[i] = i; } func main() { go w(0); go w(1); }", never},
		{"var a[2] int; func w(i int) { a[i % 2] = i; } func main() { go w(0); go w(2); }", always},
		{"mutex m; func w() { lock m; unlock m; } func main() { go w(); lock m; unlock m; }", never},
	} {
		raced, calm := 0, 0
		for n := range many(640) {
			var picks []int
			for i := range 6 {
				picks = append(picks, n>>i&1)
			}
			picks = append(picks, n>>6&3)
			m := checkRun(t, x.text, picks, 30)
			if len(m.races()) > 0 {
				raced++
			} else {
				calm++
			}
		}
		got := sometimes
		if raced == 0 {
			got = never
		} else if calm == 0 {
			got = always
		}
		if got != x.races {
			t.Errorf("%s: races %d of %d times", x.text, raced, raced+calm)
		}
	}
}

// A writer writes random texts of programs whose goroutines meet often.
type writer struct {
	*rand.Rand
	strings.Builder
	funcs int
}

func (w *writer) say(format string, args ...any) {
	fmt.Fprintf(w, format, args...)
}

func (w *writer) one(list ...string) string {
	return list[w.Intn(len(list))]
}

func randomText(r *rand.Rand) string {
	w := &writer{Rand: r, funcs: 1 + r.Intn(3)}
	w.say("var x int; var y int; var a[3] int; mutex m; mutex n; chan c[%d] int; chan d[%d] int; atomic k; atomic l; ", r.Intn(3), r.Intn(4))
	for i := range w.funcs {
		w.say("func w%d() { v := 1; ", i)
		w.stmts(1+r.Intn(6), 2)
		w.say("} ")
	}
	w.say("func main() { v := 0; ")
	for range 1 + r.Intn(3) {
		w.say("go w%d(); ", r.Intn(w.funcs))
		w.stmts(r.Intn(3), 2)
	}
	w.stmts(r.Intn(6), 2)
	w.say("}")
	return w.String()
}

func (w *writer) stmts(many, deep int) {
	for range many {
		w.stmt(deep)
	}
}

func (w *writer) stmt(deep int) {
	target, value := w.one("x", "y", "a[0]", "a[1]", "a[2]", "v"), w.one("x", "y", "a[0]", "a[1]", "a[2]", "v", "1", "x + 1", "a[v % 2 * 0]")
	switch c := w.Intn(16); {
	case c < 5:
		w.say("%s = %s; ", target, value)
	case c < 8 && deep > 0:
		m := w.one("m", "n")
		w.say("lock %s; ", m)
		w.stmts(1+w.Intn(2), deep-1)
		w.say("unlock %s; ", m)
	case c < 10:
		w.say("send %s, %s; ", w.one("c", "d"), value)
	case c < 12:
		w.say("recv %s, %s; ", w.one("c", "d"), target)
	case c < 14:
		w.say("%s %s, %s; ", w.one("put", "add"), w.one("k", "l"), value)
	case c < 15 && deep > 0:
		w.say("%s %s < 2 { ", w.one("if", "while"), w.one("x", "v", "y"))
		w.stmts(1+w.Intn(2), deep-1)
		w.say("v = v + 1; } ")
	case c < 15 && w.Intn(6) == 0:
		w.say("go w%d(); ", w.Intn(w.funcs))
	default:
		w.say("get %s, %s; ", w.one("k", "l"), target)
	}
}

// TestRandomRuns: random programs by random picks.
func TestRandomRuns(t *testing.T) {
	r := rand.New(rand.NewSource(190))
	counts := tally{}
	for range many(1500) {
		text := randomText(r)
		for range 2 {
			var picks []int
			for range r.Intn(12) {
				picks = append(picks, r.Intn(8))
			}
			counts.add(checkRun(t, text, picks, 5+r.Intn(50)))
		}
	}
	counts.need(t, many(500), kindNames[1:]...)
	counts.need(t, many(50), "race ww", "race rw", "race wr", "by others", "unlock lock", "send recv", "recv send", "recv of room 0 or go", "go of room 0 or go", "add get", "put put")
}
