package act_test

import (
	"fmt"
	"math"
	"math/rand"
	"testing"

	"stockade/act"
	"stockade/api"
	"stockade/value"
)

// The tests of P12.1 of Play and Listed.

func TestListed(t *testing.T) {
	for _, list := range [][]int{nil, {}, {3}, {0}, {1, 2}, {-1, 5, math.MaxInt, math.MinInt, 0}} {
		pick := act.Listed(list)
		for i := range 3*len(list) + 2 {
			wanted := 0
			if len(list) > 0 {
				wanted = list[i%len(list)]
			}
			// The numbers are the list's, whatever there is to pick of.
			want(t, fmt.Sprint("pick ", i, " of ", list), pick([]int{2, 0, -1, 8, math.MaxInt}[i%5]), wanted)
		}
	}
	list := []int{4, 5, 6}
	a := act.Listed(list[:2])
	b := act.Listed(list[:2])
	want(t, "first pick", a(9), 4)
	list[0], list[1] = 7, 8
	want(t, "second pick, the list being changed", a(9), 5)
	want(t, "again from the beginning", a(9), 4)
	want(t, "the other one's first", b(9), 4)
	want(t, "what lies behind the list", list, "[7 8 6]")
}

// ring is a goroutine 0 that lets two others begin; all three do so many turns.
func ring(turns int) [][]act.Wait {
	scripts := [][]act.Wait{{wait(api.EvGo, 1, 1), wait(api.EvGo, 2, 2)}, {}, {}}
	for fn := range scripts {
		for i := range turns {
			scripts[fn] = append(scripts[fn], wait(api.EvTurn, 0, 100*fn+i))
		}
	}
	return scripts
}

// whose is the goroutines of a run's events.
func whose(run *act.Run) []int {
	var list []int
	for _, e := range run.Events() {
		list = append(list, e.G)
	}
	return list
}

// TestPick: only where several can run the pick is asked, of how many they are; it is taken modulo that, and one below 0 as 0.
func TestPick(t *testing.T) {
	cases := []struct {
		picks []int
		fuel  int
		whose string
	}{
		{nil, 5, "[0 0 0 0 0]"},
		{[]int{0}, 5, "[0 0 0 0 0]"},
		{[]int{1}, 5, "[0 1 1 1 1]"},
		{[]int{0, 2, 1, 0, 2}, 6, "[0 0 2 1 0 2]"},
		{[]int{2, 3, 4, 5, 6}, 6, "[0 0 0 1 2 0]"}, // of two: 0; of three: 0, 1, 2, 0
		{[]int{0, -1, -2, -3, math.MinInt}, 6, "[0 0 0 0 0 0]"},
		{[]int{0, math.MaxInt}, 5, "[0 0 1 0 1]"}, // 2^63 - 1 is 1 modulo 3
	}
	for _, c := range cases {
		asked := []int{}
		listed := act.Listed(c.picks)
		run := act.Start(shape{}.state(t), act.Scripted(ring(20)), 0)
		end := run.Play(func(n int) int {
			want(t, "how many can run", len(run.Runnable()), n)
			asked = append(asked, n)
			return listed(n)
		}, c.fuel)
		want(t, fmt.Sprint(c.picks, ": end"), end, api.End{Outcome: api.FuelOut})
		want(t, fmt.Sprint(c.picks, ": whose"), whose(run), c.whose)
		for i, n := range asked {
			want(t, fmt.Sprint(c.picks, ": asked ", i), n, map[bool]int{true: 2, false: 3}[i < goneOn(run)])
		}
		want(t, fmt.Sprint(c.picks, ": how often"), len(asked), c.fuel-1)
	}
	run := act.Start(shape{}.state(t), act.Scripted(ring(2)), 0)
	want(t, "no pick", run.Play(nil, 100), api.End{Outcome: api.Finished})
	want(t, "no pick: whose", whose(run), "[0 0 0 0 0 1 1 1 2 2 2]")
}

// goneOn is how many picks there were among two: until the second EvGo.
func goneOn(run *act.Run) int {
	for i, e := range run.Events() {
		if e.Kind == api.EvGo && e.Obj == 2 {
			return i
		}
	}
	return run.Count()
}

// TestPickOfThoseThatCan: the pick counts those that can run alone, not those that wait or have ended.
func TestPickOfThoseThatCan(t *testing.T) {
	h := shape{mutexes: 1}
	stuck := []act.Wait{wait(api.EvLock, 0, 1)}
	scripts := [][]act.Wait{{wait(api.EvLock, 0, 2), wait(api.EvGo, 1, 3), wait(api.EvGo, 2, 4), wait(api.EvGo, 3, 5), wait(api.EvGo, 1, 6), wait(api.EvTurn, 0, 7)}, stuck, {}, {wait(api.EvTurn, 0, 8)}}
	run := act.Start(h.state(t), act.Scripted(scripts), 0)
	for range 5 {
		want(t, "Do", run.Do(0), nil)
	}
	want(t, "Do", run.Do(2), nil) // it ends
	want(t, "Runnable", run.Runnable(), "[0 3]")
	asked := ""
	want(t, "Play", run.Play(func(n int) int { asked += fmt.Sprint(n, " "); return 1 }, 9), api.End{Outcome: api.FuelOut})
	want(t, "whose", whose(run)[6:], "[3 3 0]")
	want(t, "asked", asked, "2 2 ")
}

// TestFuel: none, some, just as much as is needed, and more; the end is the run's, or FuelOut.
func TestFuel(t *testing.T) {
	finished, out := api.End{Outcome: api.Finished}, api.End{Outcome: api.FuelOut}
	for fuel := -2; fuel < 15; fuel++ {
		run := act.Start(shape{}.state(t), act.Scripted(ring(2)), 0) // 11 events
		wanted, count, left := out, max(fuel, 0), api.End{}
		if fuel >= 11 {
			wanted, count, left = finished, 11, finished
		}
		want(t, fmt.Sprint("fuel ", fuel), run.Play(act.Listed([]int{1}), fuel), wanted)
		want(t, fmt.Sprint("fuel ", fuel, ": Count"), run.Count(), count)
		want(t, fmt.Sprint("fuel ", fuel, ": End"), run.End(), left)
	}
	for _, fuel := range []int{math.MinInt, math.MaxInt} {
		run := act.Start(shape{}.state(t), act.Scripted(ring(2)), 0)
		wanted := map[bool]api.End{true: out, false: finished}[fuel < 0]
		want(t, fmt.Sprint("fuel ", fuel), run.Play(act.Listed(nil), fuel), wanted)
	}
	// Faults and deadlocks at just the last of the fuel, and not with one less.
	for _, c := range []struct {
		list []act.Wait
		end  api.End
		need int
	}{
		{[]act.Wait{wait(api.EvTurn, 0, 1), wait(api.EvTurn, 0, 2), with(0, 0, 3, value.Int(4))}, api.End{Outcome: api.Faulted, Fault: api.FaultFail, N: 4, At: 3}, 2},
		{[]act.Wait{wait(api.EvTurn, 0, 1), wait(api.EvLock, 5, 2)}, api.End{Outcome: api.Deadlock}, 1},
		{[]act.Wait{wait(api.EvTurn, 0, 1), wait(api.EvUnlock, 0, 2)}, api.End{Outcome: api.Faulted, Fault: api.FaultUnlock, At: 2}, 2},
		{[]act.Wait{wait(api.EvTurn, 0, 1), wait(api.EvGo, 1, 2)}, api.End{Outcome: api.Faulted, Fault: api.FaultGo, At: 2}, 2},
		{[]act.Wait{with(0, 0, 3, value.Int(4))}, api.End{Outcome: api.Faulted, Fault: api.FaultFail, N: 4, At: 3}, -1}, // at its beginning, whatever the fuel is
	} {
		for fuel := -1; fuel < 5; fuel++ {
			run := act.Start(shape{mutexes: 1}.state(t), act.Scripted([][]act.Wait{c.list}), 0)
			wanted := c.end
			if fuel < c.need {
				wanted = out
			}
			want(t, fmt.Sprint(c.list, " with fuel ", fuel), run.Play(act.Listed(nil), fuel), wanted)
		}
	}
}

// TestFuelOfTwo: a send of a channel of room 0 does two events at once, and the last one may be past the fuel.
func TestFuelOfTwo(t *testing.T) {
	h := shape{chans: []api.Chan{{Type: api.TInt}}}
	scripts := [][]act.Wait{{wait(api.EvGo, 1, 0), with(api.EvSend, 0, 1, value.Int(1)), wait(api.EvTurn, 0, 0)}, {wait(api.EvRecv, 0, 2)}}
	for fuel, count := range []int{0, 1, 3, 3, 4} {
		run := act.Start(h.state(t), act.Scripted(scripts), 0)
		want(t, fmt.Sprint("fuel ", fuel), run.Play(act.Listed(nil), fuel), api.End{Outcome: api.FuelOut})
		want(t, fmt.Sprint("fuel ", fuel, ": Count"), run.Count(), count)
	}
}

// TestGoOn: a Play goes on where one before it, or a Do, stopped; the fuel is of all events of the run.
func TestGoOn(t *testing.T) {
	whole := act.Start(shape{}.state(t), act.Scripted(ring(4)), 0)
	list := []int{1, 0, 2, 2, 1}
	want(t, "the whole", whole.Play(act.Listed(list), 100), api.End{Outcome: api.Finished})
	for step := 1; step < 6; step++ {
		run := act.Start(shape{}.state(t), act.Scripted(ring(4)), 0)
		pick := act.Listed(list)
		for fuel := step; run.End().Outcome == api.Running; fuel += step {
			run.Play(pick, fuel)
			want(t, "Count", run.Count(), min(fuel, whole.Count()))
			want(t, "a Play with no more fuel", run.Play(pick, fuel-step+1).Outcome == api.FuelOut, fuel < whole.Count())
			want(t, "Count behind it", run.Count(), min(fuel, whole.Count()))
		}
		want(t, fmt.Sprint("in steps of ", step), run.Events(), whole.Events())
		want(t, "End", run.End(), api.End{Outcome: api.Finished})
	}
	run := act.Start(shape{}.state(t), act.Scripted(ring(4)), 0)
	for range 3 {
		want(t, "Do", run.Do(0), nil)
	}
	want(t, "Play behind Do", run.Play(act.Listed(nil), 3), api.End{Outcome: api.FuelOut})
	want(t, "Count", run.Count(), 3)
	want(t, "Play behind Do", run.Play(act.Listed(nil), 4), api.End{Outcome: api.FuelOut})
	want(t, "Count", run.Count(), 4)
	want(t, "Do behind Play", run.Do(1), nil)
}

// TestPickThatMeddles: a pick that always locks what the picked goroutine waits for; Play ends all the same.
func TestPickThatMeddles(t *testing.T) {
	s := shape{mutexes: 4}.state(t)
	scripts := make([][]act.Wait, 4)
	for fn := range scripts {
		if fn > 0 {
			scripts[0] = append(scripts[0], wait(api.EvGo, fn, 0))
			scripts[fn] = append(scripts[fn], wait(api.EvLock, fn, 0))
		}
	}
	scripts[0] = append(scripts[0], wait(api.EvLock, 0, 0))
	run := act.Start(s, act.Scripted(scripts), 0)
	want(t, "three that begin", run.Play(act.Listed(nil), 3), api.End{Outcome: api.FuelOut})
	asked := 0
	pick := func(int) int {
		if asked++; asked > 1000 {
			return 0
		}
		first := run.Runnable()[0]
		for i := range 4 {
			s.Unlock(i)
		}
		s.Lock(first)
		return 0
	}
	want(t, "Play", run.Play(pick, 100), api.End{Outcome: api.FuelOut})
	want(t, "Count", run.Count(), 3)
	if asked > 1000 {
		t.Error("Play would go on for ever")
	}
}

// TestRandomPlays holds plays against the model's, with picks of all kinds, in one part and in several.
func TestRandomPlays(t *testing.T) {
	r := rand.New(rand.NewSource(1212))
	runs := 6000
	if testing.Short() {
		runs = 600
	}
	for range runs {
		var list []int
		for range r.Intn(8) {
			list = append(list, r.Intn(20)-4)
		}
		b := begin(t, someShape(), randomScripts(r), r.Intn(5)-r.Intn(2))
		pick, modelPick := act.Listed(list), act.Listed(list)
		var asked, modelAsked []int
		for range 1 + r.Intn(3) {
			fuel := r.Intn(120) - 5
			got := b.run.Play(func(n int) int { asked = append(asked, n); return pick(n) }, fuel)
			wanted := b.model.play(func(n int) int { modelAsked = append(modelAsked, n); return modelPick(n) }, fuel)
			b.told = append(b.told, "Play", list, fuel)
			if got != wanted {
				t.Fatalf("%v: end %v, want %v", b.told, got, wanted)
			}
			b.check()
			if fmt.Sprint(asked) != fmt.Sprint(modelAsked) {
				t.Fatalf("%v: picks of %v, want of %v", b.told, asked, modelAsked)
			}
		}
		b.refuse()
		b.check()
		checkHeld(t, b.run.Events(), someShape().chans, b.told)
	}
}

// TestLongPlay: as many events as a run may do, in a time that doesn't grow with the square.
func TestLongPlay(t *testing.T) {
	h := shape{chans: []api.Chan{{Type: api.TInt, Room: 3}}}
	var scripts [][]act.Wait
	for fn := range 2 {
		var list []act.Wait
		for i := range api.MaxFuel {
			if fn == 0 {
				list = append(list, with(api.EvSend, 0, i, value.Int(i)))
			} else {
				list = append(list, wait(api.EvRecv, 0, i))
			}
		}
		scripts = append(scripts, list)
	}
	scripts[0] = append([]act.Wait{wait(api.EvGo, 1, 0)}, scripts[0]...)
	run := act.Start(h.state(t), act.Scripted(scripts), 0)
	want(t, "Play", run.Play(act.Listed([]int{0, 1, 1}), api.MaxFuel), api.End{Outcome: api.FuelOut})
	want(t, "Count", run.Count(), api.MaxFuel)
	checkHeld(t, run.Events(), h.chans, "a long play")
}
