package vm

import (
	"stockade/act"
	"stockade/api"
)

// A thread is a goroutine of a code. The frame is that of its innermost call.
type thread struct {
	api.Code
	*frame
	outer []*frame // of the calls in which that one is, the goroutine's first one ahead
	end   int      // the byte at which the goroutine ends
	gives bool     // whether the event that it waits for gives a value
	halt  act.Halt // of Fault 0, as long as it hasn't halted
}

// begin is the threads of the functions of a right code, which is kept.
func begin(c api.Code) act.Begin {
	return func(fn int, args []api.Value) act.Thread {
		if fn < 0 || fn >= len(c.Funcs) || !takes(c.Funcs[fn], args) {
			return nil
		}
		return &thread{Code: c, frame: enter(c.Funcs[fn], args), end: last(c, fn).At}
	}
}

// last is a function's last instruction.
func last(c api.Code, fn int) api.Instr {
	behind := len(c.Body)
	if fn+1 < len(c.Funcs) {
		behind = c.Funcs[fn+1].Start
	}
	return c.Body[behind-1]
}

// Next is the next event that the goroutine waits for, or its halt. One that has ended or halted tells that again.
func (t *thread) Next(in api.Value) (w act.Wait, h act.Halt) {
	if t.halt.Fault != 0 {
		return act.Wait{}, t.halt
	}
	defer func() {
		if stop := recover(); stop != nil {
			t.halt = stop.(act.Halt)
			h = t.halt
		}
	}()
	if t.gives {
		t.push(in)
	}
	w = t.run()
	t.gives = w.Kind == api.EvRead || w.Kind == api.EvRecv || w.Kind == api.EvGet
	return w, act.Halt{}
}

// run goes through instructions up to the next event. That ends, since a right code goes back by a Turn or a Call alone.
func (t *thread) run() act.Wait {
	for {
		in := t.Body[t.next]
		if in.Op == opReturn && len(t.outer) == 0 {
			return act.Wait{Kind: api.EvEnd, At: t.end}
		}
		t.next++
		if kinds[in.Op] != 0 {
			return t.event(in)
		}
		t.silent(in)
	}
}

// call begins a call. Its EvTurn isn't done yet then, but none of what it does comes ahead of its first event.
func (t *thread) call(in api.Instr) {
	f := t.Funcs[in.A]
	args := t.take(f.Params)
	if len(t.outer) >= api.MaxCalls {
		halt(api.FaultCalls, 0, in.At)
	}
	t.outer = append(t.outer, t.frame)
	t.frame = enter(f, args)
}

// leave ends the innermost call.
func (t *thread) leave() {
	caller := len(t.outer) - 1
	t.frame, t.outer = t.outer[caller], t.outer[:caller]
}

// halt ends the going through instructions, however deep it is; Next makes it an answer.
func halt(fault, n, at int) {
	panic(act.Halt{Fault: fault, N: n, At: at})
}
