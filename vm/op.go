package vm

import "stockade/api"

// The Ops, in the order of layer 14's table.
const (
	opInt = 1 + iota
	opFloat
	opBool
	opLocal
	opSetLocal
	opRead
	opWrite
	opReadElem
	opWriteElem
	opUnary
	opBinary
	opJump
	opJumpIf
	opShort
	opLock
	opUnlock
	opSend
	opRecv
	opGet
	opPut
	opAdd
	opGo
	opCall
	opTurn
	opReturn
	opFail
)

// kinds is the kind of the event that an instruction of each Op comes to; 0 of those that are silent. (A Return is silent, or ends the goroutine.)
var kinds = [...]int{
	opRead:      api.EvRead,
	opWrite:     api.EvWrite,
	opReadElem:  api.EvRead,
	opWriteElem: api.EvWrite,
	opLock:      api.EvLock,
	opUnlock:    api.EvUnlock,
	opSend:      api.EvSend,
	opRecv:      api.EvRecv,
	opGet:       api.EvGet,
	opPut:       api.EvPut,
	opAdd:       api.EvAdd,
	opGo:        api.EvGo,
	opCall:      api.EvTurn,
	opTurn:      api.EvTurn,
	opFail:      0,
}
