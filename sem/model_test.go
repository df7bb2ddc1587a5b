package sem_test

import (
	"fmt"
	"iter"
	"testing"

	"stockade/act"
	"stockade/api"
	"stockade/sem"
	"stockade/sync"
	"stockade/value"
)

// The model of P13.1: a function is gone through by plain recursion, as the chapter tells it, in a coroutine that yields each wait.

type walker struct {
	p     api.Program
	calls int
	yield func(act.Wait) bool
	in    api.Value // what the last event gave
	halt  act.Halt
	next  func() (act.Wait, bool)
}

type stopped struct{}

func (w *walker) Next(in api.Value) (act.Wait, act.Halt) {
	w.in = in
	wait, _ := w.next()
	return wait, w.halt
}

func (w *walker) walk(fn int, args []api.Value) iter.Seq[act.Wait] {
	return func(yield func(act.Wait) bool) {
		defer func() {
			switch stop := recover().(type) {
			case act.Halt:
				w.halt = stop
			case nil, stopped:
			default:
				panic(stop)
			}
		}()
		w.yield = yield
		w.function(fn, args)
		w.do(act.Wait{Kind: api.EvEnd, At: w.p.Funcs[fn].Block.At})
	}
}

func (w *walker) do(wait act.Wait) api.Value {
	if !w.yield(wait) {
		panic(stopped{})
	}
	return w.in
}

func (w *walker) function(fn int, args []api.Value) {
	locals := map[int]api.Value{}
	for i, typ := range w.p.Funcs[fn].Locals {
		locals[i] = api.Value{Type: typ}
		if i < len(args) {
			locals[i] = args[i]
		}
	}
	w.block(w.p.Funcs[fn].Block, locals)
}

// block tells whether a return was met.
func (w *walker) block(n api.Node, locals map[int]api.Value) bool {
	for _, kid := range n.Kids {
		if w.stmt(kid, locals) {
			return true
		}
	}
	return false
}

func (w *walker) stmt(n api.Node, locals map[int]api.Value) bool {
	event := func(kind int, v api.Value) api.Value {
		return w.do(act.Wait{Kind: kind, Obj: n.Obj, At: n.At, V: v})
	}
	none := api.Value{}
	switch n.Kind {
	case api.KSet:
		index := w.index(n.Kids[0], locals)
		w.set(n.Kids[0], index, w.eval(n.Kids[1], locals), locals)
	case api.KLet:
		locals[n.N] = w.eval(n.Kids[0], locals)
	case api.KGo:
		w.do(act.Wait{Kind: api.EvGo, Obj: n.Obj, At: n.At, Args: w.evals(n.Kids, locals)})
	case api.KCall:
		args := w.evals(n.Kids, locals)
		if w.calls == 16 {
			panic(act.Halt{Fault: api.FaultCalls, At: n.At})
		}
		w.do(act.Wait{Kind: api.EvTurn, At: n.At})
		w.calls++
		w.function(n.Obj, args)
		w.calls--
	case api.KLock:
		event(api.EvLock, none)
	case api.KUnlock:
		event(api.EvUnlock, none)
	case api.KSend:
		event(api.EvSend, w.eval(n.Kids[0], locals))
	case api.KAdd:
		event(api.EvAdd, w.eval(n.Kids[0], locals))
	case api.KPut:
		event(api.EvPut, w.eval(n.Kids[0], locals))
	case api.KRecv:
		index := w.index(n.Kids[0], locals)
		w.set(n.Kids[0], index, event(api.EvRecv, none), locals)
	case api.KGet:
		index := w.index(n.Kids[0], locals)
		w.set(n.Kids[0], index, event(api.EvGet, none), locals)
	case api.KIf:
		if w.eval(n.Kids[0], locals).N == 1 {
			return w.block(n.Kids[1], locals)
		}
		return len(n.Kids) > 2 && w.block(n.Kids[2], locals)
	case api.KWhile:
		for {
			w.do(act.Wait{Kind: api.EvTurn, At: n.At})
			if w.eval(n.Kids[0], locals).N == 0 {
				return false
			}
			if w.block(n.Kids[1], locals) {
				return true
			}
		}
	case api.KReturn:
		return true
	case api.KFail:
		panic(act.Halt{Fault: api.FaultFail, N: w.eval(n.Kids[0], locals).N, At: n.At})
	}
	return false
}

func (w *walker) evals(list []api.Node, locals map[int]api.Value) []api.Value {
	var out []api.Value
	for _, n := range list {
		out = append(out, w.eval(n, locals))
	}
	return out
}

func (w *walker) eval(n api.Node, locals map[int]api.Value) api.Value {
	switch n.Kind {
	case api.KInt:
		return api.Value{Type: api.TInt, N: n.N}
	case api.KFloat:
		return api.Value{Type: api.TFloat, Bits: n.Bits}
	case api.KBool:
		return api.Value{Type: api.TBool, N: n.N}
	case api.KLocal:
		return locals[n.N]
	case api.KPlace:
		return w.do(act.Wait{Kind: api.EvRead, Obj: n.N, At: n.At})
	case api.KElem:
		return w.do(act.Wait{Kind: api.EvRead, Obj: element(n, w.eval(n.Kids[0], locals)), At: n.At})
	case api.KUnary:
		v, fault := value.Unary(n.Name, w.eval(n.Kids[0], locals))
		return fine(v, fault, n)
	}
	a := w.eval(n.Kids[0], locals)
	if n.Name == "&&" && a.N == 0 || n.Name == "||" && a.N == 1 {
		return a
	}
	v, fault := value.Binary(n.Name, a, w.eval(n.Kids[1], locals))
	return fine(v, fault, n)
}

func fine(v api.Value, fault int, n api.Node) api.Value {
	if fault != 0 {
		panic(act.Halt{Fault: fault, At: n.At})
	}
	return v
}

// index is the value of a KElem's kid.
func (w *walker) index(n api.Node, locals map[int]api.Value) (v api.Value) {
	if n.Kind == api.KElem {
		v = w.eval(n.Kids[0], locals)
	}
	return v
}

func element(n api.Node, index api.Value) int {
	if index.N < 0 || index.N > n.Size-1 {
		panic(act.Halt{Fault: api.FaultIndex, At: n.At})
	}
	return n.N + index.N
}

func (w *walker) set(n api.Node, index, v api.Value, locals map[int]api.Value) {
	switch n.Kind {
	case api.KLocal:
		locals[n.N] = v
	case api.KPlace:
		w.do(act.Wait{Kind: api.EvWrite, Obj: n.N, At: n.At, V: v})
	case api.KElem:
		w.do(act.Wait{Kind: api.EvWrite, Obj: element(n, index), At: n.At, V: v})
	}
}

// modelStart is a run of walkers; stop ends their coroutines.
func modelStart(p api.Program) (run *act.Run, stop func()) {
	var stops []func()
	begin := func(fn int, args []api.Value) act.Thread {
		w := &walker{p: p}
		next, stop := iter.Pull(w.walk(fn, args))
		w.next, stops = next, append(stops, stop)
		return w
	}
	s, err := sync.New(p.Places, p.Mutexes, p.Chans, p.Atomics)
	if err != nil {
		panic(err)
	}
	return act.Start(s, begin, p.Main), func() {
		for _, stop := range stops {
			stop()
		}
	}
}

func modelPlay(p api.Program, picks []int, fuel int) ([]api.Event, api.End, error) {
	run, stop := modelStart(p)
	defer stop()
	end := run.Play(act.Listed(picks), fuel)
	return run.Events(), end, nil
}

// checkPlay holds a play against the model's, which it is given back.
func checkPlay(t *testing.T, p api.Program, picks []int, fuel int) ([]api.Event, api.End) {
	t.Helper()
	events, end, _ := modelPlay(p, picks, fuel)
	got, gotEnd, err := sem.Play(p, picks, fuel)
	if g, w := fmt.Sprint(got, gotEnd, err), fmt.Sprint(events, end, nil); g != w {
		t.Fatalf("%v, picks %v, fuel %d\n got %s\nwant %s", p, picks, fuel, g, w)
	}
	return events, end
}

// checkFuels plays with all fuels from below 0 on.
func checkFuels(t *testing.T, p api.Program, picks []int, most int) {
	t.Helper()
	for fuel := -1; fuel <= most; fuel++ {
		events, end := checkPlay(t, p, picks, fuel)
		if len(events) < fuel && end.Outcome == api.FuelOut || len(events) > max(fuel, 0)+1 {
			t.Fatalf("%v, fuel %d: %v %v", p, fuel, events, end)
		}
	}
}

// checkSteps goes through a run event by event beside the model's: what all goroutines wait for, with which values, is asked, too.
func checkSteps(t *testing.T, p api.Program, pick func(n int) int, fuel int) {
	t.Helper()
	run, err := sem.Start(p)
	if err != nil {
		t.Fatalf("Start(%v): %v", p, err)
	}
	model, stop := modelStart(p)
	defer stop()
	for {
		got := fmt.Sprint(run.Waits(), run.Runnable(), run.End(), run.Count())
		want := fmt.Sprint(model.Waits(), model.Runnable(), model.End(), model.Count())
		if got != want {
			t.Fatalf("%v, behind %v\n got %s\nwant %s", p, model.Events(), got, want)
		}
		able := model.Runnable()
		if len(able) == 0 || model.Count() >= fuel {
			break
		}
		g := able[pick(len(able))]
		if err := fmt.Sprint(run.Do(g), model.Do(g)); err != "<nil> <nil>" {
			t.Fatalf("%v: Do(%d): %s", p, g, err)
		}
	}
	if got, want := fmt.Sprint(run.Events()), fmt.Sprint(model.Events()); got != want {
		t.Fatalf("%v\n got %s\nwant %s", p, got, want)
	}
}
