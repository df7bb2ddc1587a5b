package vm_test

import (
	"fmt"
	"iter"
	"slices"
	"testing"

	"stockade/act"
	"stockade/api"
	"stockade/sync"
	"stockade/value"
	"stockade/vm"
)

// The model of P17.1: a function is gone through as the chapter tells it, a call being a call of the model's own, in a coroutine that yields each wait.

type walker struct {
	c      api.Code
	counts *tally
	calls  int
	yield  func(act.Wait) bool
	in     api.Value // what the last event gave
	halt   act.Halt
	next   func() (act.Wait, bool)
}

// A tally counts how often an instruction of each Op was gone through.
type tally [27]int

func (c *tally) need(t *testing.T, least int) {
	t.Helper()
	for i, n := range c[1:] {
		if n < least {
			t.Errorf("%s was gone through %d times: %v", opNames[i], n, *c)
		}
	}
}

type stopped struct{}

func (w *walker) Next(in api.Value) (act.Wait, act.Halt) {
	w.in = in
	wait, _ := w.next()
	return wait, w.halt
}

func (w *walker) walk(fn int, args []api.Value) iter.Seq[act.Wait] {
	return func(yield func(act.Wait) bool) {
		defer func() {
			switch stop := recover().(type) {
			case act.Halt:
				w.halt = stop
			case nil, stopped:
			default:
				panic(stop)
			}
		}()
		w.yield = yield
		w.function(fn, args)
		ends := append(slices.Clone(w.c.Funcs), api.Entry{Start: len(w.c.Body)})
		for { // whoever asks on is told the end again
			w.do(act.Wait{Kind: api.EvEnd, At: w.c.Body[ends[fn+1].Start-1].At})
		}
	}
}

func (w *walker) do(wait act.Wait) api.Value {
	if !w.yield(wait) {
		panic(stopped{})
	}
	return w.in
}

// A call is what a function's call has of its own.
type call struct {
	*walker
	place  int
	locals map[int]api.Value
	stack  []api.Value
}

func (c *call) push(v api.Value) {
	c.stack = append(c.stack, v)
}

func (c *call) pop() api.Value {
	v := c.stack[len(c.stack)-1]
	c.stack = c.stack[:len(c.stack)-1]
	return v
}

// arguments is what a function's arguments on the stack are; they go.
func (c *call) arguments(fn int) []api.Value {
	list := make([]api.Value, c.c.Funcs[fn].Params)
	for i := range list {
		list[len(list)-1-i] = c.pop()
	}
	return list
}

// function goes through a function up to its Return.
func (w *walker) function(fn int, args []api.Value) {
	f := w.c.Funcs[fn]
	c := &call{walker: w, place: f.Start, locals: map[int]api.Value{}}
	for i, typ := range f.Locals {
		c.locals[i] = api.Value{Type: typ}
	}
	for i, v := range args {
		c.locals[i] = v
	}
	for {
		in := w.c.Body[c.place]
		w.counts[in.Op]++
		c.place++
		if opNames[in.Op-1] == "Return" {
			return
		}
		c.silent(in)
		c.event(in)
	}
}

func (c *call) silent(in api.Instr) {
	name := opNames[in.Op-1]
	switch name {
	case "Int":
		c.push(api.Value{Type: api.TInt, N: in.A})
	case "Float":
		c.push(api.Value{Type: api.TFloat, Bits: in.Bits})
	case "Bool":
		c.push(api.Value{Type: api.TBool, N: in.A})
	case "Local":
		c.push(c.locals[in.A])
	case "SetLocal":
		c.locals[in.A] = c.pop()
	case "Unary":
		v, fault := value.Unary(operators[name][in.A], c.pop())
		c.push(fine(v, fault, in))
	case "Binary":
		b := c.pop()
		a := c.pop()
		v, fault := value.Binary(operators[name][in.A], a, b)
		c.push(fine(v, fault, in))
	case "Jump":
		c.place = in.A
	case "JumpIf":
		if c.pop().N == in.B {
			c.place = in.A
		}
	case "Short":
		if c.stack[len(c.stack)-1].N == in.B {
			c.place = in.A
		} else {
			c.pop()
		}
	case "Fail":
		panic(act.Halt{Fault: api.FaultFail, N: c.pop().N, At: in.At})
	}
}

func fine(v api.Value, fault int, in api.Instr) api.Value {
	if fault != 0 {
		panic(act.Halt{Fault: fault, At: in.At})
	}
	return v
}

func (c *call) event(in api.Instr) {
	do := func(kind int, v api.Value) api.Value {
		return c.do(act.Wait{Kind: kind, Obj: in.A, At: in.At, V: v})
	}
	switch opNames[in.Op-1] {
	case "Read":
		c.push(do(api.EvRead, api.Value{}))
	case "ReadElem":
		in.A += index(c.pop(), in)
		c.push(do(api.EvRead, api.Value{}))
	case "Write":
		do(api.EvWrite, c.pop())
	case "WriteElem":
		v := c.pop()
		in.A += index(c.pop(), in)
		do(api.EvWrite, v)
	case "Lock":
		do(api.EvLock, api.Value{})
	case "Unlock":
		do(api.EvUnlock, api.Value{})
	case "Send":
		do(api.EvSend, c.pop())
	case "Recv":
		c.push(do(api.EvRecv, api.Value{}))
	case "Get":
		c.push(do(api.EvGet, api.Value{}))
	case "Put":
		do(api.EvPut, c.pop())
	case "Add":
		do(api.EvAdd, c.pop())
	case "Turn":
		c.do(act.Wait{Kind: api.EvTurn, At: in.At})
	case "Go":
		c.do(act.Wait{Kind: api.EvGo, Obj: in.A, At: in.At, Args: c.arguments(in.A)})
	case "Call":
		args := c.arguments(in.A)
		if c.calls == 16 {
			panic(act.Halt{Fault: api.FaultCalls, At: in.At})
		}
		c.do(act.Wait{Kind: api.EvTurn, At: in.At})
		c.calls++
		c.function(in.A, args)
		c.calls--
	}
}

func index(v api.Value, in api.Instr) int {
	if v.N < 0 || v.N > in.B-1 {
		panic(act.Halt{Fault: api.FaultIndex, At: in.At})
	}
	return v.N
}

// counted is a Begin of walkers, whose instructions are counted; stop ends their coroutines.
func counted(c api.Code, counts *tally) (begin act.Begin, stop func()) {
	var stops []func()
	begin = func(fn int, args []api.Value) act.Thread {
		w := &walker{c: c, counts: counts}
		next, stop := iter.Pull(w.walk(fn, args))
		w.next, stops = next, append(stops, stop)
		return w
	}
	return begin, func() {
		for _, stop := range stops {
			stop()
		}
	}
}

func modelBegin(c api.Code) (begin act.Begin, stop func()) {
	return counted(c, new(tally))
}

// modelStart is a run of walkers.
func modelStart(c api.Code, counts *tally) (run *act.Run, stop func()) {
	begin, stop := counted(c, counts)
	s, err := sync.New(c.Places, c.Mutexes, c.Chans, c.Atomics)
	if err != nil {
		panic(err)
	}
	return act.Start(s, begin, c.Main), stop
}

func modelPlay(c api.Code, picks []int, fuel int) ([]api.Event, api.End, error) {
	run, stop := modelStart(c, new(tally))
	defer stop()
	end := run.Play(act.Listed(picks), fuel)
	return run.Events(), end, nil
}

// checkPlay holds a play against the model's, which it is given back.
func checkPlay(t *testing.T, c api.Code, picks []int, fuel int) ([]api.Event, api.End) {
	t.Helper()
	events, end, _ := modelPlay(c, picks, fuel)
	got, gotEnd, err := vm.Play(c, picks, fuel)
	if gotEnd != end || err != nil || !slices.Equal(got, events) {
		t.Fatalf("%v, picks %v, fuel %d\n got %v %v %v\nwant %v %v", c, picks, fuel, got, gotEnd, err, events, end)
	}
	return events, end
}

// checkFuels plays with all fuels from below 0 on.
func checkFuels(t *testing.T, c api.Code, picks []int, most int) {
	t.Helper()
	for fuel := -1; fuel <= most; fuel++ {
		events, end := checkPlay(t, c, picks, fuel)
		if len(events) < fuel && end.Outcome == api.FuelOut || len(events) > max(fuel, 0)+1 {
			t.Fatalf("%v, fuel %d: %v %v", c, fuel, events, end)
		}
	}
}

// checkSame goes through two runs side by side, event by event: what all goroutines wait for, with which values, is asked, too.
func checkSame(t *testing.T, what any, run, model *act.Run, pick func(n int) int, fuel int) {
	t.Helper()
	for {
		got := fmt.Sprint(run.Waits(), run.Runnable(), run.End(), run.Count())
		want := fmt.Sprint(model.Waits(), model.Runnable(), model.End(), model.Count())
		if got != want {
			t.Fatalf("%v, behind %v\n got %s\nwant %s", what, model.Events(), got, want)
		}
		able := model.Runnable()
		if len(able) == 0 || model.Count() >= fuel {
			break
		}
		g := able[pick(len(able))]
		if err := fmt.Sprint(run.Do(g), model.Do(g)); err != "<nil> <nil>" {
			t.Fatalf("%v: Do(%d): %s", what, g, err)
		}
	}
	if got, want := run.Events(), model.Events(); !slices.Equal(got, want) {
		t.Fatalf("%v\n got %v\nwant %v", what, got, want)
	}
}

// checkSteps goes through a code's run beside the model's.
func checkSteps(t *testing.T, c api.Code, counts *tally, pick func(n int) int, fuel int) {
	t.Helper()
	run, err := vm.Start(c)
	if err != nil {
		t.Fatalf("Start(%v): %v", c, err)
	}
	model, stop := modelStart(c, counts)
	defer stop()
	checkSame(t, c, run, model, pick, fuel)
}
