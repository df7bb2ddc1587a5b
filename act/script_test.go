package act_test

import (
	"fmt"
	"math"
	"testing"

	"stockade/act"
	"stockade/api"
	"stockade/value"
)

// The tests of P12.1 of Scripted, and of what answers share with what was handed in.

func TestScripted(t *testing.T) {
	w := act.Wait{Kind: api.EvGo, Obj: 3, At: 4, V: value.Float(1), Args: []api.Value{value.Int(1)}}
	begin := act.Scripted([][]act.Wait{{}, {w, wait(99, -1, -2)}, nil})
	for _, fn := range []int{math.MinInt, -1, 3, math.MaxInt} {
		if thread := begin(fn, nil); thread != nil {
			t.Errorf("function %d: %v", fn, thread)
		}
	}
	for _, fn := range []int{0, 2} {
		thread := begin(fn, []api.Value{value.Int(8)})
		for range 3 {
			want(t, "behind the end", fmt.Sprintln(thread.Next(value.Int(4))), fmt.Sprintln(act.Wait{Kind: api.EvEnd}, act.Halt{}))
		}
	}
	a, b := begin(1, nil), begin(1, nil)
	for _, thread := range []act.Thread{a, b} { // each has the whole script
		want(t, "first", fmt.Sprintln(thread.Next(api.Value{})), fmt.Sprintln(w, act.Halt{}))
		want(t, "second", fmt.Sprintln(thread.Next(value.Bool(true))), fmt.Sprintln(wait(99, -1, -2), act.Halt{}))
		want(t, "third", fmt.Sprintln(thread.Next(api.Value{})), fmt.Sprintln(act.Wait{Kind: api.EvEnd}, act.Halt{}))
	}
}

// TestScriptedHalt: a wait of Kind 0, wherever it stands.
func TestScriptedHalt(t *testing.T) {
	turn := wait(api.EvTurn, 0, 1)
	for _, v := range []api.Value{{}, value.Int(7), value.Int(math.MinInt), value.Float(3), value.Bool(true), {Type: 8, N: 5}, {Type: api.TFloat, N: 6}} {
		fail := act.Wait{At: 33, Obj: 4, V: v, Args: []api.Value{value.Int(1)}}
		for ahead := range 3 {
			list := []act.Wait{turn, turn, turn}[:ahead]
			thread := act.Scripted([][]act.Wait{append(list, fail, turn)})(0, nil)
			for range ahead {
				want(t, "ahead", fmt.Sprintln(thread.Next(api.Value{})), fmt.Sprintln(turn, act.Halt{}))
			}
			want(t, "the halt", fmt.Sprintln(thread.Next(api.Value{})), fmt.Sprintln(act.Wait{}, act.Halt{Fault: api.FaultFail, N: v.N, At: 33}))
			run := act.Start(shape{}.state(t), act.Scripted([][]act.Wait{append(list, fail, turn)}), 0)
			want(t, "Play", run.Play(act.Listed(nil), 9), api.End{Outcome: api.Faulted, Fault: api.FaultFail, N: v.N, At: 33})
			want(t, "Count", run.Count(), ahead)
		}
	}
}

// TestScriptsAreItsOwn: scripts that were handed in may be changed, and what a thread told too.
func TestScriptsAreItsOwn(t *testing.T) {
	fresh := func() [][]act.Wait {
		return [][]act.Wait{{{Kind: api.EvGo, Obj: 0, Args: []api.Value{value.Int(1)}}, wait(api.EvTurn, 0, 1)}}
	}
	scripts := fresh()
	begin := act.Scripted(scripts)
	told := func() string {
		thread := begin(0, nil)
		var all string
		for range 3 {
			w, h := thread.Next(api.Value{})
			all += fmt.Sprintln(w, h)
			for i := range w.Args {
				w.Args[i] = value.Int(77)
			}
			_ = append(w.Args, value.Int(78))
		}
		return all
	}
	first := told()
	want(t, "scripts behind it", scripts, fresh())
	scripts[0][0].Args[0] = value.Int(55)
	scripts[0][0].Obj = 9
	scripts[0][1] = act.Wait{}
	scripts[0] = nil
	want(t, "told, the scripts being changed", told(), first)
}

// TestAnswersAreNew: an answer may be changed, and the run doesn't see it; a run goes on, and an answer doesn't change.
func TestAnswersAreNew(t *testing.T) {
	args := []api.Value{value.Int(1), value.Int(2)}
	scripts := [][]act.Wait{{wait(api.EvGo, 1, 1), wait(api.EvGo, 1, 1), wait(api.EvTurn, 0, 3)}, {{Kind: api.EvGo, Obj: 2, At: 2, Args: args}}, {}}
	run := act.Start(shape{}.state(t), act.Scripted(scripts), 0)
	want(t, "Do", run.Do(0), nil)
	want(t, "Do", run.Do(0), nil)
	waits, events, able := run.Waits(), run.Events(), run.Runnable()
	before := fmt.Sprint(waits, events, able)
	waits[1].Args[0] = value.Int(9)
	want(t, "arguments of another wait", waits[2].Args, args)
	waits[0], events[0], able[0] = act.Wait{}, api.Event{}, 9
	_, _, _ = append(waits, act.Wait{Kind: 5}), append(events, api.Event{G: 5}), append(able, 5)
	want(t, "asked again", fmt.Sprint(run.Waits(), run.Events(), run.Runnable()), before)
	waits, events, able = run.Waits(), run.Events(), run.Runnable()
	for _, g := range []int{0, 1, 2} {
		want(t, "Do", run.Do(g), nil)
	}
	want(t, "the answers, the run having gone on", fmt.Sprint(waits, events, able), before)
}
