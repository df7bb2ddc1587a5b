package code

import (
	"math"
	"slices"

	"stockade/api"
)

// The Ops, in the chapter's order.
const (
	opInt = 1 + iota
	opFloat
	opBool
	opLocal
	opSetLocal
	opRead
	opWrite
	opReadElem
	opWriteElem
	opUnary
	opBinary
	opJump
	opJumpIf
	opShort
	opLock
	opUnlock
	opSend
	opRecv
	opGet
	opPut
	opAdd
	opGo
	opCall
	opTurn
	opReturn
	opFail
)

// operators is the operators of an Op, the first of which has the number 1.
func operators(op int) []string {
	switch op {
	case opUnary:
		return []string{"-", "!", "int", "float"}
	case opBinary:
		return []string{"+", "-", "*", "/", "%", "==", "!=", "<", "<=", ">", ">="}
	}
	return nil
}

// numbered is the number of an Op's operator: Index is -1 of one that is none, which makes it 0.
func numbered(op int, name string) int {
	return slices.Index(operators(op), name) + 1
}

// A span is the least and the greatest number that a field may be.
type span struct {
	least, most int
}

func (s span) has(n int) bool {
	return s.least <= n && n <= s.most
}

// oneOf is the numbers of so many things.
func oneOf(many int) span {
	return span{0, many - 1}
}

// A shape is what the fields of an Op's instruction may be; one that the Op doesn't look at may be 0 alone.
type shape struct {
	a, b span
	bits uint64 // the greatest
}

// shapes is each Op's shape in a code; what isn't among its keys is no Op.
func shapes(c api.Code) map[int]shape {
	place, instr, function := oneOf(len(c.Places)), oneOf(len(c.Body)), oneOf(len(c.Funcs))
	mutex, channel, atomic := oneOf(c.Mutexes), oneOf(len(c.Chans)), oneOf(c.Atomics)
	local, bit, elems := oneOf(api.MaxLocals), oneOf(2), span{1, api.MaxElems}
	return map[int]shape{
		opInt:       {a: span{0, math.MaxInt}},
		opFloat:     {bits: math.MaxUint64},
		opBool:      {a: bit},
		opLocal:     {a: local},
		opSetLocal:  {a: local},
		opRead:      {a: place},
		opWrite:     {a: place},
		opReadElem:  {a: place, b: elems},
		opWriteElem: {a: place, b: elems},
		opUnary:     {a: span{1, len(operators(opUnary))}},
		opBinary:    {a: span{1, len(operators(opBinary))}},
		opJump:      {a: instr},
		opJumpIf:    {a: instr, b: bit},
		opShort:     {a: instr, b: bit},
		opLock:      {a: mutex},
		opUnlock:    {a: mutex},
		opSend:      {a: channel},
		opRecv:      {a: channel},
		opGet:       {a: atomic},
		opPut:       {a: atomic},
		opAdd:       {a: atomic},
		opGo:        {a: function},
		opCall:      {a: function},
		opTurn:      {},
		opReturn:    {},
		opFail:      {},
	}
}
