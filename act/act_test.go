package act_test

import (
	"fmt"
	"math"
	"testing"

	"stockade/act"
	"stockade/api"
	"stockade/sync"
	"stockade/value"
)

// The tests of P12.1 by tables: what each kind of wait needs, does and gives; who begins; how runs end.

func want(t *testing.T, what string, got, wanted any) {
	t.Helper()
	if g, w := fmt.Sprint(got), fmt.Sprint(wanted); g != w {
		t.Errorf("%s = %s, want %s", what, g, w)
	}
}

// busy is a state in which of everything there is one of each kind: mutex 1 is locked; channel 0 has no room, 1 is empty, 2 full, 3 neither.
func busy(t *testing.T) *sync.State {
	t.Helper()
	h := shape{
		places: []int{api.TInt, api.TFloat, api.TBool}, mutexes: 2,
		chans:   []api.Chan{{Type: api.TInt}, {Type: api.TFloat, Room: 1}, {Type: api.TBool, Room: 2}, {Type: api.TInt, Room: 2}},
		atomics: 2,
	}
	s := h.state(t)
	s.Write(0, value.Int(11))
	s.Write(1, value.Float(2.5))
	s.Write(2, value.Bool(true))
	s.Lock(1)
	s.Send(2, value.Bool(true))
	s.Send(2, value.Bool(false))
	s.Send(3, value.Int(33))
	s.Put(1, math.MaxInt)
	return s
}

// alone is a run of one goroutine, that has one wait, and a diary of it.
func alone(s *sync.State, w act.Wait) (*act.Run, *diary) {
	d := &diary{begin: act.Scripted([][]act.Wait{{w, wait(api.EvTurn, 0, 99)}})}
	return act.Start(s, d.of, 0), d
}

// TestEachKind: a goroutine that can run does its event, which changes the state and gives a value.
func TestEachKind(t *testing.T) {
	none := api.Value{}
	cases := []struct {
		w     act.Wait
		gave  api.Value
		state func(s *sync.State) string
		left  string
	}{
		{wait(api.EvRead, 0, 5), value.Int(11), func(s *sync.State) string { return fmt.Sprintln(s.Read(0)) }, "{1 11 0} <nil>\n"},
		{wait(api.EvRead, 1, 5), value.Float(2.5), func(s *sync.State) string { return "" }, ""},
		{wait(api.EvRead, 2, 5), value.Bool(true), func(s *sync.State) string { return "" }, ""},
		{with(api.EvRead, 2, 5, value.Int(4)), value.Bool(true), func(s *sync.State) string { return "" }, ""},
		{with(api.EvWrite, 0, 6, value.Int(4)), none, func(s *sync.State) string { return fmt.Sprintln(s.Read(0)) }, "{1 4 0} <nil>\n"},
		{with(api.EvWrite, 1, 6, value.Float(0)), none, func(s *sync.State) string { return fmt.Sprintln(s.Read(1)) }, "{2 0 0} <nil>\n"},
		{with(api.EvWrite, 2, 6, value.Bool(false)), none, func(s *sync.State) string { return fmt.Sprintln(s.Read(2)) }, "{3 0 0} <nil>\n"},
		{wait(api.EvLock, 0, 7), none, func(s *sync.State) string { return fmt.Sprintln(s.Locked(0), s.Locked(1)) }, "true true\n"},
		{wait(api.EvUnlock, 1, 8), none, func(s *sync.State) string { return fmt.Sprintln(s.Locked(0), s.Locked(1)) }, "false false\n"},
		{with(api.EvSend, 1, 9, value.Float(1)), none, func(s *sync.State) string { return fmt.Sprintln(s.Recv(1)) }, "{2 0 4607182418800017408} true <nil>\n"},
		{with(api.EvSend, 3, 9, value.Int(34)), none, func(s *sync.State) string { return fmt.Sprintln(s.Len(3)) + fmt.Sprintln(s.Recv(3)) }, "2\n{1 33 0} true <nil>\n"},
		{wait(api.EvRecv, 2, 10), value.Bool(true), func(s *sync.State) string { return fmt.Sprintln(s.Len(2)) }, "1\n"},
		{wait(api.EvRecv, 3, 10), value.Int(33), func(s *sync.State) string { return fmt.Sprintln(s.Len(3)) }, "0\n"},
		{wait(api.EvGet, 1, 11), value.Int(math.MaxInt), func(s *sync.State) string { return fmt.Sprintln(s.Get(1)) }, "9223372036854775807 <nil>\n"},
		{wait(api.EvGet, 0, 11), value.Int(0), func(s *sync.State) string { return fmt.Sprintln(s.Get(0)) }, "0 <nil>\n"},
		{with(api.EvPut, 1, 12, value.Int(-6)), none, func(s *sync.State) string { return fmt.Sprintln(s.Get(1)) }, "-6 <nil>\n"},
		{with(api.EvAdd, 1, 13, value.Int(1)), none, func(s *sync.State) string { return fmt.Sprintln(s.Get(1)) }, "-9223372036854775808 <nil>\n"},
		{with(api.EvAdd, 0, 13, value.Int(-2)), none, func(s *sync.State) string { return fmt.Sprintln(s.Get(0)) }, "-2 <nil>\n"},
		{wait(api.EvTurn, 0, 14), none, func(s *sync.State) string { return "" }, ""},
		{with(api.EvTurn, -7, 14, value.Int(3)), none, func(s *sync.State) string { return "" }, ""},
	}
	for _, c := range cases {
		s := busy(t)
		run, d := alone(s, c.w)
		told := fmt.Sprint(c.w)
		want(t, told+": Waits", run.Waits(), []act.Wait{c.w})
		want(t, told+": Runnable", run.Runnable(), "[0]")
		want(t, told+": Do", run.Do(0), nil)
		want(t, told+": Events", run.Events(), []api.Event{{Kind: c.w.Kind, Obj: c.w.Obj, At: c.w.At}})
		want(t, told+": Waits behind it", run.Waits(), []act.Wait{wait(api.EvTurn, 0, 99)})
		want(t, told+": what it gave", d.lines[len(d.lines)-1], fmt.Sprintf("ask 0 %v", c.gave))
		want(t, told+": the state", c.state(s), c.left)
		want(t, told+": End", run.End(), api.End{})
	}
}

// TestWhoCanRun goes through all kinds, objects around those that there are, and values of all types and of none.
func TestWhoCanRun(t *testing.T) {
	good := map[string]bool{}
	let := func(kind int, objs []int, values ...api.Value) {
		for _, obj := range objs {
			for _, v := range values {
				good[fmt.Sprint(kind, obj, v)] = true
			}
		}
	}
	all := someValues()
	ints := []api.Value{value.Int(5), value.Int(-1), value.Int(math.MaxInt), value.Int(math.MinInt)}
	floats := []api.Value{value.Float(1.5), value.Float(math.NaN())}
	bools := []api.Value{value.Bool(true), value.Bool(false)}
	objs := []int{math.MinInt, -1, 0, 1, 2, 3, 4, 31, 32, 128, math.MaxInt}
	let(api.EvRead, []int{0, 1, 2}, all...)
	let(api.EvWrite, []int{0}, ints...)
	let(api.EvWrite, []int{1}, floats...)
	let(api.EvWrite, []int{2}, bools...)
	let(api.EvLock, []int{0}, all...)
	let(api.EvUnlock, []int{0, 1}, all...)
	let(api.EvSend, []int{1}, floats...)
	let(api.EvSend, []int{3}, ints...)
	let(api.EvRecv, []int{2, 3}, all...)
	let(api.EvGet, []int{0, 1}, all...)
	let(api.EvPut, []int{0, 1}, ints...)
	let(api.EvAdd, []int{0, 1}, ints...)
	for _, kind := range []int{api.EvGo, api.EvTurn, api.EvEnd} {
		let(kind, objs, all...)
	}
	for _, kind := range []int{math.MinInt, -3, -1, 1, 2, 3, 4, 5, 6, 7, 8, 9, 10, 11, 12, 13, 14, 255, math.MaxInt} {
		for _, obj := range objs {
			for _, v := range all {
				checkCan(t, with(kind, obj, 5, v), good[fmt.Sprint(kind, obj, v)])
			}
		}
	}
}

// checkCan asks it of a goroutine by itself, and of one beside another that can run.
func checkCan(t *testing.T, w act.Wait, can bool) {
	t.Helper()
	s := busy(t)
	before := s.Copy()
	list, err, outcome := "[]", api.ErrState, api.Deadlock
	if can {
		list, err, outcome = "[0]", nil, api.Running
	}
	run, d := alone(s, w)
	want(t, fmt.Sprint(w, ": Runnable"), run.Runnable(), list)
	want(t, fmt.Sprint(w, ": End"), run.End(), api.End{Outcome: outcome})
	if !sync.Same(s, before) {
		t.Errorf("%v: to ask who can run changed the state", w)
	}
	if !can {
		want(t, fmt.Sprint(w, ": Do"), run.Do(0), err)
		want(t, fmt.Sprint(w, ": asked"), len(d.lines), 2)
	}
	two := act.Start(s, act.Scripted([][]act.Wait{{wait(api.EvGo, 1, 0), wait(api.EvTurn, 0, 0)}, {w}}), 0)
	want(t, fmt.Sprint(w, ": Do of the first"), two.Do(0), nil)
	list = "[0]"
	if can {
		list = "[0 1]"
	}
	want(t, fmt.Sprint(w, ": Runnable of two"), two.Runnable(), list)
	if !can {
		waits := fmt.Sprint(two.Waits())
		want(t, fmt.Sprint(w, ": Do"), two.Do(1), api.ErrRange)
		want(t, fmt.Sprint(w, ": Waits behind an error"), two.Waits(), waits)
		want(t, fmt.Sprint(w, ": Count behind an error"), two.Count(), 1)
		want(t, fmt.Sprint(w, ": End behind an error"), two.End(), api.End{})
	}
	if !sync.Same(s, before) {
		t.Errorf("%v: a refused Do changed the state", w)
	}
}

// TestRoom0: of several that wait to receive the one with the least number gets the value, whoever sends.
func TestRoom0(t *testing.T) {
	h := shape{chans: []api.Chan{{Type: api.TInt}, {Type: api.TInt}}}
	scripts := [][]act.Wait{
		{wait(api.EvGo, 1, 0), wait(api.EvGo, 2, 0), wait(api.EvGo, 2, 0), wait(api.EvGo, 3, 0), wait(api.EvGo, 4, 0), wait(api.EvRecv, 0, 50)},
		{wait(api.EvTurn, 0, 0), wait(api.EvRecv, 0, 51)},
		{wait(api.EvRecv, 0, 52)},
		{wait(api.EvRecv, 1, 53)},
		{with(api.EvSend, 0, 60, value.Int(7)), with(api.EvSend, 0, 61, value.Int(8)), with(api.EvSend, 0, 62, value.Int(9)), with(api.EvSend, 0, 63, value.Int(10)), with(api.EvSend, 0, 64, value.Int(11))},
	}
	b := begin(t, h, scripts, 0)
	for range 5 {
		b.do(0)
	}
	want(t, "Runnable", b.run.Runnable(), "[1 5]") // 0, 2 and 3 wait for channel 0, 4 for channel 1
	b.do(5)
	want(t, "who received", b.run.Events()[5:], "[{5 5 0 60} {0 6 0 50}]")
	b.do(5)
	want(t, "who received", b.run.Events()[7:], "[{5 5 0 61} {2 6 0 52}]")
	b.do(1) // goroutine 1 waits to receive only now, and is ahead of 3
	b.do(5)
	want(t, "who received", b.run.Events()[10:], "[{5 5 0 62} {1 6 0 51}]")
	b.do(5)
	want(t, "who received", b.run.Events()[12:], "[{5 5 0 63} {3 6 0 52}]")
	if err := b.run.Do(5); err != api.ErrRange {
		t.Errorf("a send that nobody takes: %v", err)
	}
	b.check()
	given := []string{"ask 0 {1 7 0}", "ask 2 {1 8 0}", "ask 1 {1 9 0}", "ask 3 {1 10 0}"}
	for _, line := range b.d.lines {
		if len(given) > 0 && line == given[0] {
			given = given[1:]
		}
	}
	if len(given) > 0 {
		t.Errorf("never: %v; asked: %v", given, b.d.lines)
	}
	if b.s.Len(0) != 0 {
		t.Error("a channel of room 0 holds a value")
	}
}

// TestBegin: who begins, with which arguments, and what its number is.
func TestBegin(t *testing.T) {
	args := []api.Value{value.Int(1), value.Bool(true), {Type: 9}}
	scripts := [][]act.Wait{{{Kind: api.EvGo, Obj: 2, At: 4, Args: args, V: value.Int(3)}, wait(api.EvTurn, 0, 5)}, {}, {wait(api.EvTurn, 0, 6)}}
	d := &diary{begin: act.Scripted(scripts)}
	run := act.Start(shape{}.state(t), d.of, 0)
	want(t, "Do", run.Do(0), nil)
	want(t, "Events", run.Events(), "[{0 10 1 4}]") // the goroutine's number, not the function's
	want(t, "Waits", run.Waits(), []act.Wait{wait(api.EvTurn, 0, 5), wait(api.EvTurn, 0, 6)})
	want(t, "asked", fmt.Sprintf("%q", d.lines), `["begin 0 []" "ask 0 {0 0 0}" "begin 2 [{1 1 0} {3 1 0} {9 0 0}]" "ask 0 {0 0 0}" "ask 1 {0 0 0}"]`)
}

// TestStart: a run of another function than 0, and of those that there are none of.
func TestStart(t *testing.T) {
	scripts := [][]act.Wait{{wait(api.EvTurn, 0, 1)}, {wait(api.EvTurn, 0, 2)}, {}}
	for fn, told := range []string{"[{11 0 1 {0 0 0} []}]", "[{11 0 2 {0 0 0} []}]", "[{12 0 0 {0 0 0} []}]"} {
		run := act.Start(shape{}.state(t), act.Scripted(scripts), fn)
		want(t, "Waits", run.Waits(), told)
		want(t, "Runnable", run.Runnable(), "[0]")
		want(t, "End", run.End(), api.End{})
		want(t, "Events", run.Events(), "[]")
		want(t, "Count", run.Count(), 0)
	}
	fault := api.End{Outcome: api.Faulted, Fault: api.FaultGo}
	for _, fn := range []int{math.MinInt, -1, 3, 4, math.MaxInt} {
		run := act.Start(shape{}.state(t), act.Scripted(scripts), fn)
		checkOver(t, fmt.Sprint("function ", fn), run, fault, "[]", "[]")
	}
	checkOver(t, "no scripts", act.Start(shape{}.state(t), act.Scripted(nil), 0), fault, "[]", "[]")
	checkOver(t, "no Begin", act.Start(shape{}.state(t), nil, 0), fault, "[]", "[]")
}

// checkOver: a run that has ended, of which nothing can be done any more.
func checkOver(t *testing.T, told string, run *act.Run, end api.End, waits, events any) {
	t.Helper()
	for range 2 {
		want(t, told+": End", run.End(), end)
		want(t, told+": Runnable", run.Runnable(), "[]")
		want(t, told+": Waits", run.Waits(), waits)
		want(t, told+": Events", run.Events(), events)
		for _, g := range []int{-1, 0, 1, 7, 8} {
			want(t, fmt.Sprint(told, ": Do ", g), run.Do(g), api.ErrState)
		}
		for _, fuel := range []int{-1, 0, 1, 100} {
			asked := 0
			pick := func(int) int { asked++; return 0 }
			want(t, told+": Play", run.Play(pick, fuel), end)
			want(t, told+": picks", asked, 0)
		}
	}
}

// TestMaxGo: as many goroutines as there may be, and one more; those that have ended are counted.
func TestMaxGo(t *testing.T) {
	for _, ended := range []bool{false, true} {
		scripts := [][]act.Wait{{}, {}}
		for i := range api.MaxGo {
			scripts[0] = append(scripts[0], wait(api.EvGo, 1, 10+i))
		}
		d := &diary{begin: act.Scripted(scripts)}
		run := act.Start(shape{}.state(t), d.of, 0)
		for i := 1; i < api.MaxGo; i++ {
			want(t, "Do", run.Do(0), nil)
			want(t, "EvGo's Obj", run.Events()[run.Count()-1], api.Event{Kind: api.EvGo, Obj: i, At: 9 + i})
			if ended {
				want(t, "Do of the new one", run.Do(i), nil)
			}
		}
		waits, events, asked := run.Waits(), run.Events(), len(d.lines)
		want(t, "goroutines", len(waits), api.MaxGo)
		want(t, "End", run.End(), api.End{})
		want(t, "Do of one more", run.Do(0), nil)
		checkOver(t, "one more", run, api.End{Outcome: api.Faulted, Fault: api.FaultGo, At: 10 + api.MaxGo - 1}, waits, events)
		want(t, "asked", len(d.lines), asked)
	}
	// The limit is one of the run: goroutines that others began count too.
	b := begin(t, shape{}, [][]act.Wait{{wait(api.EvGo, 0, 7)}}, 0)
	for g := range api.MaxGo {
		want(t, "End", b.run.End(), api.End{})
		b.do(g)
		b.check()
	}
	want(t, "End", b.run.End(), api.End{Outcome: api.Faulted, Fault: api.FaultGo, G: api.MaxGo - 1, At: 7})
}

// TestGoOfNone: Begin tells no thread: no event is done, and the goroutine keeps its wait.
func TestGoOfNone(t *testing.T) {
	for _, fn := range []int{math.MinInt, -1, 1, 16, math.MaxInt} {
		run, _ := alone(shape{}.state(t), wait(api.EvGo, fn, 21))
		want(t, "Runnable", run.Runnable(), "[0]")
		want(t, "Do", run.Do(0), nil)
		checkOver(t, fmt.Sprint("EvGo ", fn), run, api.End{Outcome: api.Faulted, Fault: api.FaultGo, At: 21}, []act.Wait{wait(api.EvGo, fn, 21)}, "[]")
	}
}

// TestUnlock of a mutex that isn't locked, by another goroutine than 0.
func TestUnlock(t *testing.T) {
	h := shape{mutexes: 2}
	scripts := [][]act.Wait{{wait(api.EvLock, 0, 1), wait(api.EvGo, 1, 2), wait(api.EvTurn, 0, 3)}, {wait(api.EvUnlock, 0, 4), wait(api.EvUnlock, 0, 5)}}
	run := act.Start(h.state(t), act.Scripted(scripts), 0)
	for _, g := range []int{0, 0, 1} {
		want(t, "Do", run.Do(g), nil)
	}
	want(t, "End", run.End(), api.End{})
	want(t, "Runnable", run.Runnable(), "[0 1]")
	want(t, "Do", run.Do(1), nil)
	checkOver(t, "unlock", run, api.End{Outcome: api.Faulted, Fault: api.FaultUnlock, G: 1, At: 5},
		[]act.Wait{wait(api.EvTurn, 0, 3), wait(api.EvUnlock, 0, 5)}, "[{0 3 0 1} {0 10 1 2} {1 4 0 4}]")
}

// TestEnds: Finished, when all have ended, and not before; Deadlock, when none can run.
func TestEnds(t *testing.T) {
	h := shape{mutexes: 1}
	run := act.Start(h.state(t), act.Scripted([][]act.Wait{{wait(api.EvGo, 1, 1)}, {wait(api.EvTurn, 0, 2)}}), 0)
	for _, g := range []int{0, 0, 1} {
		want(t, "Do", run.Do(g), nil)
		want(t, "End", run.End(), api.End{})
	}
	want(t, "Waits", run.Waits(), []act.Wait{{}, wait(api.EvEnd, 0, 0)})
	want(t, "Do of one that has ended", run.Do(0), api.ErrRange)
	want(t, "Do", run.Do(1), nil)
	checkOver(t, "Finished", run, api.End{Outcome: api.Finished}, []act.Wait{{}, {}}, "[{0 10 1 1} {0 12 0 0} {1 11 0 2} {1 12 0 0}]")

	run = act.Start(h.state(t), act.Scripted([][]act.Wait{{wait(api.EvGo, 1, 1), wait(api.EvLock, 0, 2), wait(api.EvUnlock, 0, 3)}, {wait(api.EvLock, 0, 4)}}), 0)
	for _, g := range []int{0, 1, 1} {
		want(t, "End", run.End(), api.End{})
		want(t, "Do", run.Do(g), nil)
	}
	checkOver(t, "Deadlock", run, api.End{Outcome: api.Deadlock}, []act.Wait{wait(api.EvLock, 0, 2), {}}, "[{0 10 1 1} {1 3 0 4} {1 12 0 0}]")

	run, _ = alone(h.state(t), wait(api.EvRead, 0, 1))
	checkOver(t, "Deadlock at once", run, api.End{Outcome: api.Deadlock}, []act.Wait{wait(api.EvRead, 0, 1)}, "[]")

	run, _ = alone(h.state(t), wait(api.EvEnd, 3, -8))
	want(t, "Do", run.Do(0), nil)
	checkOver(t, "an EvEnd told", run, api.End{Outcome: api.Finished}, []act.Wait{{}}, "[{0 12 3 -8}]")
}

// TestStateIsHeld: the run uses the state that it is handed, not a copy; others may use it too.
func TestStateIsHeld(t *testing.T) {
	s := shape{places: []int{api.TInt}, mutexes: 1, chans: []api.Chan{{Type: api.TInt, Room: 1}}}.state(t)
	d := &diary{begin: act.Scripted([][]act.Wait{{with(api.EvWrite, 0, 1, value.Int(5)), wait(api.EvRead, 0, 2), wait(api.EvLock, 0, 3), with(api.EvSend, 0, 4, value.Int(1)), wait(api.EvLock, 0, 5)}})}
	run := act.Start(s, d.of, 0)
	want(t, "Do", run.Do(0), nil)
	v, _ := s.Read(0)
	want(t, "what the run wrote", v, value.Int(5))
	s.Write(0, value.Int(6))
	want(t, "Do", run.Do(0), nil)
	want(t, "what the run read", d.lines[len(d.lines)-1], "ask 0 {1 6 0}")
	s.Lock(0)
	want(t, "Runnable", run.Runnable(), "[]")
	want(t, "End", run.End(), api.End{Outcome: api.Deadlock}) // none can run
	want(t, "Play", run.Play(act.Listed(nil), 100), api.End{Outcome: api.Deadlock})
	want(t, "Do", run.Do(0), api.ErrState)
	s.Unlock(0)
	want(t, "Do", run.Do(0), nil)
	s.Send(0, value.Int(2))
	want(t, "Runnable", run.Runnable(), "[]")
	s.Recv(0)
	want(t, "Do", run.Do(0), nil)
	// The run itself has come to an end: that stays.
	events := run.Events()
	s.Unlock(0)
	checkOver(t, "Deadlock", run, api.End{Outcome: api.Deadlock}, []act.Wait{wait(api.EvLock, 0, 5)}, events)
}

// TestTwoRuns: runs of one Begin go on by themselves; of states of their own they share nothing.
func TestTwoRuns(t *testing.T) {
	h := shape{places: []int{api.TInt}}
	scripts := act.Scripted([][]act.Wait{{with(api.EvAdd, 0, 1, value.Int(1)), wait(api.EvGo, 0, 2)}})
	h.atomics = 1
	a, b := h.state(t), h.state(t)
	first, second := act.Start(a, scripts, 0), act.Start(b, scripts, 0)
	want(t, "Do", first.Do(0), nil)
	want(t, "Do", first.Do(0), nil)
	want(t, "the other one's Count", second.Count(), 0)
	want(t, "the other one's Waits", second.Waits(), []act.Wait{with(api.EvAdd, 0, 1, value.Int(1))})
	want(t, "Do", second.Do(0), nil)
	n, _ := b.Get(0)
	want(t, "the other one's atomic", n, 1)
	want(t, "Waits", first.Waits(), []act.Wait{wait(api.EvEnd, 0, 0), with(api.EvAdd, 0, 1, value.Int(1))})
}
