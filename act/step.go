package act

import (
	"slices"

	"stockade/api"
	"stockade/sync"
	"stockade/value"
)

// goroutine is a thread, and what it told last; a wait of Kind 0, if it has ended.
type goroutine struct {
	Thread
	wait Wait
}

// step does the event of a goroutine that can run.
func (r *Run) step(g int) {
	w := r.goroutines[g].wait
	switch {
	case w.Kind == api.EvUnlock && !r.state.Locked(w.Obj):
		r.fault(g, Halt{Fault: api.FaultUnlock, At: w.At})
	case w.Kind == api.EvGo:
		r.split(g, w)
	case w.Kind == api.EvSend && r.state.Room(w.Obj) == 0:
		r.meet(g, w)
	case w.Kind == api.EvEnd:
		r.note(g, w.Obj)
		r.goroutines[g].wait = Wait{}
	default:
		gave := share(r.state, w)
		r.note(g, w.Obj)
		r.ask(g, gave)
	}
}

// split does an EvGo.
func (r *Run) split(g int, w Wait) {
	born := len(r.goroutines)
	if born >= api.MaxGo || !r.enter(w.Obj, w.Args) {
		r.fault(g, Halt{Fault: api.FaultGo, At: w.At})
		return
	}
	r.note(g, born)
	if r.ask(g, api.Value{}) {
		r.ask(born, api.Value{})
	}
}

// meet does an EvSend of a channel without room: the value goes from hand to hand, and the state isn't changed.
func (r *Run) meet(g int, w Wait) {
	to := r.receiver(w.Obj)
	r.note(g, w.Obj)
	r.note(to, w.Obj)
	if r.ask(g, api.Value{}) {
		r.ask(to, w.V)
	}
}

// share does a wait's call of layer 11, and is what that gives. Its errors were asked for by canRun.
func share(s *sync.State, w Wait) api.Value {
	var gave api.Value
	switch w.Kind {
	case api.EvRead:
		gave, _ = s.Read(w.Obj)
	case api.EvWrite:
		s.Write(w.Obj, w.V)
	case api.EvLock:
		s.Lock(w.Obj)
	case api.EvUnlock:
		s.Unlock(w.Obj)
	case api.EvSend:
		s.Send(w.Obj, w.V)
	case api.EvRecv:
		gave, _, _ = s.Recv(w.Obj)
	case api.EvGet:
		n, _ := s.Get(w.Obj)
		gave = value.Int(n)
	case api.EvPut:
		s.Put(w.Obj, w.V.N)
	case api.EvAdd:
		s.Add(w.Obj, w.V.N)
	}
	return gave
}

// enter lets a function's goroutine begin, which isn't asked for a wait yet; false, if there is no thread.
func (r *Run) enter(fn int, args []api.Value) bool {
	if r.begin == nil {
		return false
	}
	// The wait's own arguments stay with the run, whatever the function does with those that it is handed.
	t := r.begin(fn, slices.Clone(args))
	if t == nil {
		return false
	}
	r.goroutines = append(r.goroutines, &goroutine{Thread: t})
	return true
}

// ask gives a goroutine what its event gave, and takes its next wait; false, if it halts instead: then it keeps the wait that it had.
func (r *Run) ask(g int, gave api.Value) bool {
	w, h := r.goroutines[g].Next(gave)
	if h.Fault != 0 {
		r.fault(g, h)
		return false
	}
	r.goroutines[g].wait = w.clone()
	return true
}

// note is that a goroutine's event is done; its object is told, since that of an EvGo isn't the wait's.
func (r *Run) note(g, obj int) {
	w := r.goroutines[g].wait
	r.events = append(r.events, api.Event{G: g, Kind: w.Kind, Obj: obj, At: w.At})
}

func (r *Run) fault(g int, h Halt) {
	r.end = api.End{Outcome: api.Faulted, Fault: h.Fault, G: g, N: h.N, At: h.At}
}

// outcome is what the run has come to, if nothing is faulted: Running, as long as one can run.
func (r *Run) outcome() int {
	outcome := api.Finished
	for number, g := range r.goroutines {
		if r.canRun(number) {
			return api.Running
		}
		if g.wait.Kind != 0 {
			outcome = api.Deadlock
		}
	}
	return outcome
}

// settle keeps the end that the run has come to by its own events: it stays, whatever others do with the state later.
func (r *Run) settle() {
	r.end = r.End()
}

// clone is a wait whose arguments are its own.
func (w Wait) clone() Wait {
	w.Args = slices.Clone(w.Args)
	return w
}
