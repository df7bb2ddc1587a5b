package detect_test

import (
	"fmt"
	"math/rand"
	"testing"

	"stockade/act"
	"stockade/api"
	"stockade/sync"
	"stockade/value"
)

// The tests of P19.2 on runs of scripts, of up to MaxGo goroutines, with all rooms, and mutexes that others unlock.

// A cast is of what random scripts are made.
type cast struct {
	*rand.Rand
	places, mutexes, atomics int
	rooms                    []int
	scripts                  int
	sync                     int // how many of its waits in ten tie goroutines
}

func randomCast(r *rand.Rand) cast {
	c := cast{Rand: r, places: 1 + r.Intn(3), mutexes: 1 + r.Intn(2), atomics: 1 + r.Intn(2), scripts: 2 + r.Intn(6), sync: r.Intn(9)}
	for range 1 + r.Intn(3) {
		c.rooms = append(c.rooms, []int{0, 0, 0, 1, 1, 2, 3, 8}[r.Intn(8)])
	}
	return c
}

// script is the waits of a goroutine; the first script's begins the others'.
func (c cast) script(first bool) []act.Wait {
	var list []act.Wait
	if first {
		list = append(list, act.Wait{Kind: api.EvGo, Obj: 1})
	}
	for range 2 + c.Intn(10) {
		list = c.add(list)
		if first && c.Intn(3) > 0 || c.Intn(15) == 0 {
			list = append(list, act.Wait{Kind: api.EvGo, Obj: 1 + c.Intn(c.scripts)})
		}
	}
	for i := range list {
		list[i].At = c.Intn(1000)
		list[i].V = value.Int(i)
	}
	return list
}

func (c cast) add(list []act.Wait) []act.Wait {
	access := act.Wait{Kind: 1 + c.Intn(2), Obj: c.Intn(c.places)}
	if c.Intn(10) >= c.sync {
		return append(list, access)
	}
	m := c.Intn(c.mutexes)
	switch c.Intn(8) {
	case 0, 1:
		list = append(list, act.Wait{Kind: api.EvLock, Obj: m})
		if c.Intn(8) > 0 {
			list = append(list, access)
		}
		if c.Intn(8) > 0 {
			list = append(list, act.Wait{Kind: api.EvUnlock, Obj: m})
		}
		return list
	case 2:
		if c.Intn(3) == 0 {
			return append(list, act.Wait{Kind: api.EvUnlock, Obj: m}) // of another one's lock, or a fault
		}
		return append(list, act.Wait{Kind: api.EvTurn})
	case 3, 4:
		return append(list, act.Wait{Kind: api.EvSend, Obj: c.Intn(len(c.rooms))})
	case 5, 6:
		return append(list, act.Wait{Kind: api.EvRecv, Obj: c.Intn(len(c.rooms))})
	}
	return append(list, act.Wait{Kind: []int{api.EvGet, api.EvPut, api.EvAdd}[c.Intn(3)], Obj: c.Intn(c.atomics)})
}

// run is the events of a run of random scripts, by random picks.
func (c cast) run(t *testing.T, fuel int) []api.Event {
	t.Helper()
	var chans []api.Chan
	for _, room := range c.rooms {
		chans = append(chans, api.Chan{Type: api.TInt, Room: room})
	}
	var types []int
	for range c.places {
		types = append(types, api.TInt)
	}
	s, err := sync.New(types, c.mutexes, chans, c.atomics)
	if err != nil {
		t.Fatal(err)
	}
	scripts := [][]act.Wait{c.script(true)}
	for range c.scripts {
		scripts = append(scripts, c.script(false))
	}
	r := act.Start(s, act.Scripted(scripts), 0)
	r.Play(c.Intn, fuel)
	return r.Events()
}

func TestScripts(t *testing.T) {
	r := rand.New(rand.NewSource(198))
	counts := tally{}
	for range many(6000) {
		c := randomCast(r)
		trace := c.run(t, r.Intn(80))
		checkRun(t, trace, c.rooms)
		counts.add(trace, c.rooms)
		counts.foreign(trace)
	}
	counts.need(t, many(500), kindNames[1:]...)
	counts.need(t, many(300), "race ww", "race rw", "race wr", "no race", "second page", "handed over")
	counts.need(t, many(50), "another one's lock")
	for n := 1; n <= api.MaxGo; n++ {
		counts.need(t, many(50), fmt.Sprint(n, " goroutines"))
	}
}

// foreign counts mutexes that another goroutine unlocks than locked them.
func (c tally) foreign(trace []api.Event) {
	locked := map[int]int{}
	for _, e := range trace {
		if e.Kind == api.EvLock {
			locked[e.Obj] = e.G
		}
		if e.Kind == api.EvUnlock && locked[e.Obj] != e.G {
			c["another one's lock"]++
		}
	}
}

// TestForeignUnlocks: an EvLock is behind all earlier EvUnlocks, also those that the last one doesn't know.
func TestForeignUnlocks(t *testing.T) {
	for _, x := range []struct{ trace, races string }{
		{"0 go 1, 0 go 2, 0 lock 0, 1 write 5, 1 unlock 0, 2 lock 0, 0 unlock 0, 0 lock 0, 0 write 5", ""},
		{"0 go 1, 0 go 2, 0 lock 0, 1 unlock 0, 1 write 5, 2 lock 0, 0 unlock 0, 0 lock 0, 0 write 5", "5: w104 w108"},
	} {
		trace := traced(x.trace)
		checkRun(t, trace, nil)
		d := enough(t, trace, nil)
		if got := racesText(d.Races()); got != x.races {
			t.Errorf("%s: %s", x.trace, got)
		}
	}
}
