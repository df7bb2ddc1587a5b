package comp

import (
	"stockade/api"
	"stockade/code"
)

// The Ops, in the order of layer 14's table.
const (
	opInt = 1 + iota
	opFloat
	opBool
	opLocal
	opSetLocal
	opRead
	opWrite
	opReadElem
	opWriteElem
	opUnary
	opBinary
	opJump
	opJumpIf
	opShort
	opLock
	opUnlock
	opSend
	opRecv
	opGet
	opPut
	opAdd
	opGo
	opCall
	opTurn
	opReturn
	opFail
)

// ops is the Op of the one instruction that a node of each kind has, whatever its kids and its name are. (A KSet's is its target's; a KBinary, a KIf and a KWhile have others.)
func ops() map[int]int {
	return map[int]int{
		api.KInt:    opInt,
		api.KFloat:  opFloat,
		api.KBool:   opBool,
		api.KLocal:  opLocal,
		api.KPlace:  opRead,
		api.KElem:   opReadElem,
		api.KUnary:  opUnary,
		api.KLet:    opSetLocal,
		api.KGo:     opGo,
		api.KCall:   opCall,
		api.KLock:   opLock,
		api.KUnlock: opUnlock,
		api.KSend:   opSend,
		api.KRecv:   opRecv,
		api.KAdd:    opAdd,
		api.KPut:    opPut,
		api.KGet:    opGet,
		api.KReturn: opReturn,
		api.KFail:   opFail,
	}
}

// stores is the Op by which each kind of target is stored into.
func stores() map[int]int {
	return map[int]int{
		api.KLocal: opSetLocal,
		api.KPlace: opWrite,
		api.KElem:  opWriteElem,
	}
}

// number is the number that a node's instruction has as its A; 0, if there is none, since layer 8 asks that a node's N is 0 then.
func number(n api.Node) int {
	switch n.Kind {
	case api.KUnary:
		return code.Unary(n.Name)
	case api.KBinary:
		return code.Binary(n.Name)
	case api.KGo, api.KCall, api.KLock, api.KUnlock, api.KSend, api.KRecv, api.KAdd, api.KPut, api.KGet:
		return n.Obj
	}
	return n.N
}
