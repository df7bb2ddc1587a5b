package proofread

// The Ops, in the order of layer 14's table.
const (
	opInt = 1 + iota
	opFloat
	opBool
	opLocal
	opSetLocal
	opRead
	opWrite
	opReadElem
	opWriteElem
	opUnary
	opBinary
	opJump
	opJumpIf
	opShort
	opLock
	opUnlock
	opSend
	opRecv
	opGet
	opPut
	opAdd
	opGo
	opCall
	opTurn
	opReturn
	opFail
)
