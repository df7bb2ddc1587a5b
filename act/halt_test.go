package act_test

import (
	"fmt"
	"testing"

	"stockade/act"
	"stockade/api"
	"stockade/value"
)

// The tests of P12.1 of halts, by threads that are made by hand.

// A told is what a thread answers to one question.
type told struct {
	w act.Wait
	h act.Halt
}

// hand is threads that answer by a list, and then EvEnd.
type hand struct{ list []told }

func (h *hand) Next(api.Value) (act.Wait, act.Halt) {
	if len(h.list) == 0 {
		return act.Wait{Kind: api.EvEnd}, act.Halt{}
	}
	a := h.list[0]
	h.list = h.list[1:]
	return a.w, a.h
}

func byHand(lists ...[]told) *diary {
	return &diary{begin: func(fn int, args []api.Value) act.Thread {
		if fn < 0 || fn >= len(lists) {
			return nil
		}
		return &hand{lists[fn]}
	}}
}

func faulted(g int, h act.Halt) api.End {
	return api.End{Outcome: api.Faulted, Fault: h.Fault, G: g, N: h.N, At: h.At}
}

func waits(list ...act.Wait) []act.Wait { return list }

func ok(w act.Wait) told { return told{w: w} }

// TestHaltAtFirst: goroutine 0 halts ahead of its first wait.
func TestHaltAtFirst(t *testing.T) {
	for _, h := range []act.Halt{{Fault: api.FaultZero}, {Fault: api.FaultFail, N: -5, At: 6}, {Fault: -1, N: 1 << 62, At: -9}, {Fault: 99}} {
		d := byHand([]told{{act.Wait{Kind: api.EvTurn, At: 3}, h}})
		run := act.Start(shape{}.state(t), d.of, 0)
		// A wait beside a halt is none that the goroutine waits for.
		checkOver(t, fmt.Sprint(h), run, faulted(0, h), waits(act.Wait{}), "[]")
	}
	// Fault 0 is no halt, whatever the other numbers are.
	run := act.Start(shape{}.state(t), byHand([]told{{wait(api.EvTurn, 0, 3), act.Halt{N: 4, At: 5}}}).of, 0)
	want(t, "End", run.End(), api.End{})
	want(t, "Waits", run.Waits(), waits(wait(api.EvTurn, 0, 3)))
}

// TestHalt: who halts behind an event, what was done, and who isn't asked any more.
func TestHalt(t *testing.T) {
	h := shape{places: []int{api.TInt}, chans: []api.Chan{{Type: api.TInt}, {Type: api.TInt, Room: 1}}}
	send, recv, turn := with(api.EvSend, 0, 1, value.Int(7)), wait(api.EvRecv, 0, 2), wait(api.EvTurn, 0, 3)
	goes, sends := wait(api.EvGo, 1, 4), with(api.EvSend, 1, 5, value.Int(7))
	one, two := act.Halt{Fault: api.FaultIndex, N: 5, At: 50}, act.Halt{Fault: api.FaultFail, N: 6, At: 60}
	cases := []struct {
		what   string
		lists  [][]told
		picks  []int
		end    api.End
		waits  []act.Wait
		events string
		asked  string // the last three lines
	}{
		{"the goroutine", [][]told{{ok(turn), {h: one}}}, []int{0},
			faulted(0, one), waits(turn), "[{0 11 0 3}]", `["begin 0 []" "ask 0 {0 0 0}" "ask 0 {0 0 0}"]`},
		{"a sender with room", [][]told{{ok(sends), {h: one}}}, []int{0},
			faulted(0, one), waits(sends), "[{0 5 1 5}]", `["begin 0 []" "ask 0 {0 0 0}" "ask 0 {0 0 0}"]`},
		{"the sender", [][]told{{ok(goes), ok(send), {h: one}}, {ok(recv), {h: two}}}, []int{0, 0},
			faulted(0, one), waits(send, recv), "[{0 10 1 4} {0 5 0 1} {1 6 0 2}]", `["ask 0 {0 0 0}" "ask 1 {0 0 0}" "ask 0 {0 0 0}"]`},
		{"the one that received", [][]told{{ok(goes), ok(send), ok(turn)}, {ok(recv), {h: two}}}, []int{0, 0},
			faulted(1, two), waits(turn, recv), "[{0 10 1 4} {0 5 0 1} {1 6 0 2}]", `["ask 1 {0 0 0}" "ask 0 {0 0 0}" "ask 1 {1 7 0}"]`},
		{"the sender, of a greater number", [][]told{{ok(goes), ok(recv), {h: one}}, {ok(send), {h: two}}}, []int{0, 1},
			faulted(1, two), waits(recv, send), "[{0 10 1 4} {1 5 0 1} {0 6 0 2}]", `["ask 0 {0 0 0}" "ask 1 {0 0 0}" "ask 1 {0 0 0}"]`},
		{"the one that received, of a lesser number", [][]told{{ok(goes), ok(recv), {h: one}}, {ok(send), ok(turn)}}, []int{0, 1},
			faulted(0, one), waits(recv, turn), "[{0 10 1 4} {1 5 0 1} {0 6 0 2}]", `["ask 1 {0 0 0}" "ask 1 {0 0 0}" "ask 0 {1 7 0}"]`},
		{"a new one", [][]told{{ok(goes), ok(turn)}, {{h: two}}}, []int{0},
			faulted(1, two), waits(turn, act.Wait{}), "[{0 10 1 4}]", `["begin 1 []" "ask 0 {0 0 0}" "ask 1 {0 0 0}"]`},
		{"the one that let it begin", [][]told{{ok(goes), {h: one}}, {{h: two}}}, []int{0},
			faulted(0, one), waits(goes, act.Wait{}), "[{0 10 1 4}]", `["ask 0 {0 0 0}" "begin 1 []" "ask 0 {0 0 0}"]`},
	}
	for _, c := range cases {
		d := byHand(c.lists...)
		run := act.Start(h.state(t), d.of, 0)
		for _, g := range c.picks {
			want(t, c.what+": End", run.End(), api.End{})
			want(t, c.what+": Do", run.Do(g), nil)
		}
		checkOver(t, c.what, run, c.end, c.waits, c.events)
		want(t, c.what+": asked", fmt.Sprintf("%q", d.lines[len(d.lines)-3:]), c.asked)
	}
}

// TestEndedIsNotAsked: behind EvEnd a goroutine isn't asked, so it can't halt.
func TestEndedIsNotAsked(t *testing.T) {
	d := byHand([]told{ok(wait(api.EvEnd, 0, 4)), {h: act.Halt{Fault: 1}}})
	run := act.Start(shape{}.state(t), d.of, 0)
	want(t, "Do", run.Do(0), nil)
	checkOver(t, "EvEnd", run, api.End{Outcome: api.Finished}, waits(act.Wait{}), "[{0 12 0 4}]")
	want(t, "asked", len(d.lines), 2)
}

// TestKind0: a thread that tells a wait of Kind 0, and doesn't halt, has ended.
func TestKind0(t *testing.T) {
	run := act.Start(shape{}.state(t), byHand([]told{ok(wait(api.EvGo, 1, 1)), {}}, []told{ok(wait(api.EvTurn, 0, 2)), {}}).of, 0)
	want(t, "Do", run.Do(0), nil)
	want(t, "Runnable", run.Runnable(), "[1]")
	want(t, "Do of one that has ended", run.Do(0), api.ErrRange)
	want(t, "Do", run.Do(1), nil)
	checkOver(t, "Kind 0", run, api.End{Outcome: api.Finished}, waits(act.Wait{}, act.Wait{}), "[{0 10 1 1} {1 11 0 2}]")
}

// TestArgumentsAreItsOwn: what a thread told, and what a Begin was handed, may be changed afterwards, and the run doesn't see it.
func TestArgumentsAreItsOwn(t *testing.T) {
	args := []api.Value{value.Int(1), value.Int(2)}
	var handed []api.Value
	lists := [][]told{{ok(act.Wait{Kind: api.EvGo, Obj: 5, At: 1, Args: args[:1]})}}
	begin := func(fn int, got []api.Value) act.Thread {
		if fn != 0 {
			handed = append([]api.Value{}, got...)
			got[0] = value.Int(99)
			_ = append(got, value.Int(98))
			return nil
		}
		return &hand{lists[0]}
	}
	run := act.Start(shape{}.state(t), begin, 0)
	args[0] = value.Int(50)
	kept := waits(act.Wait{Kind: api.EvGo, Obj: 5, At: 1, Args: []api.Value{value.Int(1)}})
	want(t, "Waits", run.Waits(), kept)
	want(t, "Do", run.Do(0), nil)
	want(t, "what Begin was handed", handed, []api.Value{value.Int(1)})
	want(t, "Waits", run.Waits(), kept)
	want(t, "what lies behind the list", args[1], value.Int(2))
}
