package vm

import (
	"stockade/act"
	"stockade/api"
	"stockade/code"
	"stockade/value"
)

// silent does an instruction that comes to no event.
func (t *thread) silent(in api.Instr) {
	switch in.Op {
	case opInt:
		t.push(value.Int(in.A))
	case opFloat:
		t.push(api.Value{Type: api.TFloat, Bits: in.Bits})
	case opBool:
		t.push(value.Bool(in.A == 1))
	case opLocal:
		t.push(t.locals[in.A])
	case opSetLocal:
		t.locals[in.A] = t.pop()
	case opUnary:
		v, fault := value.Unary(code.Operator(in.Op, in.A), t.pop())
		t.made(v, fault, in.At)
	case opBinary:
		second := t.pop()
		v, fault := value.Binary(code.Operator(in.Op, in.A), t.pop(), second)
		t.made(v, fault, in.At)
	case opJump:
		t.next = in.A
	case opJumpIf:
		if jumps(in, t.pop()) {
			t.next = in.A
		}
	case opShort:
		if top := t.pop(); jumps(in, top) {
			t.push(top)
			t.next = in.A
		}
	case opReturn:
		t.leave()
	case opFail:
		halt(api.FaultFail, t.pop().N, in.At)
	}
}

// made puts what an operator made of values onto the stack, if it didn't fault.
func (t *thread) made(v api.Value, fault, at int) {
	if fault != 0 {
		halt(fault, 0, at)
	}
	t.push(v)
}

// jumps tells whether a JumpIf or Short goes on at its A.
func jumps(in api.Instr, top api.Value) bool {
	return value.True(top) == (in.B == 1)
}

// event is the event that an instruction comes to.
func (t *thread) event(in api.Instr) act.Wait {
	w := act.Wait{Kind: kinds[in.Op], Obj: in.A, At: in.At}
	switch in.Op {
	case opWrite, opSend, opPut, opAdd:
		w.V = t.pop()
	case opReadElem:
		w.Obj = t.element(in)
	case opWriteElem:
		w.V = t.pop()
		w.Obj = t.element(in)
	case opGo:
		w.Args = t.take(t.Funcs[in.A].Params)
	case opCall:
		w.Obj = 0
		t.call(in)
	}
	return w
}

// element is the place of the array's element whose index is the top.
func (t *thread) element(in api.Instr) int {
	index := t.pop().N
	if index < 0 || index >= in.B {
		halt(api.FaultIndex, 0, in.At)
	}
	return in.A + index
}
