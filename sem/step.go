package sem

import (
	"stockade/act"
	"stockade/api"
)

// rest is what comes behind something: it is handed what that gave, the value of Type 0 if that gives none, and tells the next step.
type rest func(in api.Value) step

// step is what a goroutine comes to: an event that it waits for, or a halt, and what comes behind. A step that is neither is silent.
type step struct {
	act.Wait
	act.Halt
	behind rest
}

// thread is a goroutine's program, of which nothing but what comes behind its last event is left.
type thread struct {
	behind rest
}

// Next is the next event that the goroutine waits for, or its halt.
func (t *thread) Next(in api.Value) (act.Wait, act.Halt) {
	s := t.behind(in)
	for s.Kind == 0 && s.Fault == 0 {
		s = s.behind(api.Value{})
	}
	t.behind = s.behind
	return s.Wait, s.Halt
}

// silent is told at the end of each statement that has no event there: if what comes behind were gone to on the spot, each statement would stand deeper in calls than the one ahead of it.
func silent(behind rest) step {
	return step{behind: behind}
}

func wait(w act.Wait, behind rest) step {
	return step{Wait: w, behind: behind}
}

func halt(fault, n, at int) step {
	return forever(step{Halt: act.Halt{Fault: fault, N: n, At: at}})
}

// ended is what comes behind the function with which a goroutine began, whose block stands at this byte.
func ended(at int) rest {
	return func(api.Value) step {
		return forever(step{Wait: act.Wait{Kind: api.EvEnd, At: at}})
	}
}

// forever is a last step: nothing comes behind it, so it is told again, if one asks on.
func forever(s step) step {
	return step{s.Wait, s.Halt, func(api.Value) step { return forever(s) }}
}
