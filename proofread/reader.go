package proofread

import (
	"slices"

	"stockade/api"
	"stockade/code"
)

// A reader goes every way that a code's functions can go, one function after the other. What isn't right ends the going by a panic.
type reader struct {
	api.Code
	api.Entry         // the function that is gone through
	end       int     // behind its last instruction
	met       []bool  // which instructions were come to
	stacks    []stack // the stack at each of these
	left      []int   // those of which it isn't asked yet what is next
}

// read is the stack at each instruction, none of those that can't be come to.
func read(c api.Code) (stacks []stack, err error) {
	if err := code.Check(c); err != nil {
		return nil, err
	}
	defer func() {
		if stop := recover(); stop != nil {
			stacks, err = nil, stop.(error)
		}
	}()
	r := &reader{Code: c, met: make([]bool, len(c.Body)), stacks: make([]stack, len(c.Body))}
	for i, f := range c.Funcs {
		r.Entry, r.end = f, len(c.Body)
		if i+1 < len(c.Funcs) {
			r.end = c.Funcs[i+1].Start
		}
		r.function()
	}
	return r.stacks, nil
}

func (r *reader) function() {
	r.come(r.Start, nil)
	for len(r.left) > 0 {
		last := len(r.left) - 1
		place := r.left[last]
		r.left = r.left[:last]
		r.step(place)
	}
}

// come comes to an instruction. What is next of one that was come to before is asked already, since its stack is the same.
func (r *reader) come(place int, s stack) {
	must(r.Start <= place && place < r.end)
	must(len(s) <= api.MaxStack)
	if r.met[place] {
		must(slices.Equal(r.stacks[place], s))
		return
	}
	r.met[place], r.stacks[place] = true, slices.Clone(s)
	r.left = append(r.left, place)
}

// jump comes to the instruction that another one names. Back it goes to a Turn alone, so that no round is without an event.
func (r *reader) jump(place int, s stack) {
	to := r.Body[place].A
	must(to > place || r.Body[to].Op == opTurn)
	r.come(to, s)
}

// step asks an instruction's need, and comes to what is next of it.
func (r *reader) step(place int) {
	s := slices.Clone(r.stacks[place])
	switch in := r.Body[place]; in.Op {
	case opJump:
		r.jump(place, s)
	case opJumpIf:
		s.take(api.TBool)
		r.jump(place, s)
		r.come(place+1, s)
	case opShort:
		r.jump(place, s)
		s.take(api.TBool)
		r.come(place+1, s)
	case opReturn:
		must(len(s) == 0)
	case opFail:
		s.take(api.TInt)
	default:
		r.change(&s, in)
		r.come(place+1, s)
	}
}

// change does to a stack what an instruction does of which the one behind alone is next. Lock, Unlock and Turn do nothing to it.
func (r *reader) change(s *stack, in api.Instr) {
	switch in.Op {
	case opInt, opGet:
		s.push(api.TInt)
	case opFloat:
		s.push(api.TFloat)
	case opBool:
		s.push(api.TBool)
	case opLocal:
		s.push(r.local(in.A))
	case opSetLocal:
		s.take(r.local(in.A))
	case opRead:
		s.push(r.Places[in.A])
	case opWrite:
		s.take(r.Places[in.A])
	case opReadElem:
		s.take(api.TInt)
		s.push(r.Places[in.A])
	case opWriteElem:
		s.take(api.TInt, r.Places[in.A])
	case opUnary:
		s.unary(code.Operator(in.Op, in.A))
	case opBinary:
		s.binary(code.Operator(in.Op, in.A))
	case opSend:
		s.take(r.Chans[in.A].Type)
	case opRecv:
		s.push(r.Chans[in.A].Type)
	case opPut, opAdd:
		s.take(api.TInt)
	case opGo, opCall:
		f := r.Funcs[in.A]
		s.take(f.Locals[:f.Params]...)
	}
}

// local is the type of one of the function's locals. That a code is in form doesn't say that the function has it.
func (r *reader) local(n int) int {
	must(n < len(r.Locals))
	return r.Locals[n]
}
