package code_test

import (
	"encoding/binary"
	"math"
	"reflect"

	"stockade/api"
)

// A model of the chapter in the tests' own words: what is in form, and what its bytes are.

// modelForm tells whether a code is in form, all at once and without a panic.
func modelForm(c api.Code) bool {
	isType := func(t int) bool { return t >= 1 && t <= 3 }
	if len(c.Places) > 128 || len(c.Funcs) > 16 || len(c.Body) > 8192 || len(c.Chans) > 32 {
		return false
	}
	if c.Mutexes < 0 || c.Atomics < 0 || c.Mutexes > 32 || c.Atomics > 32-c.Mutexes || len(c.Chans) > 32-c.Mutexes-c.Atomics {
		return false
	}
	for _, t := range c.Places {
		if !isType(t) {
			return false
		}
	}
	for _, ch := range c.Chans {
		if !isType(ch.Type) || ch.Room < 0 || ch.Room > 8 {
			return false
		}
	}
	if c.Main < 0 || c.Main >= len(c.Funcs) || c.Funcs[c.Main].Params != 0 {
		return false
	}
	above := -1
	for i, f := range c.Funcs {
		if i == 0 && f.Start != 0 || f.Start <= above || f.Start >= len(c.Body) {
			return false
		}
		above = f.Start
		if f.Params < 0 || f.Params > 4 || f.Params > len(f.Locals) || len(f.Locals) > 32 {
			return false
		}
		for _, t := range f.Locals {
			if !isType(t) {
				return false
			}
		}
	}
	for _, in := range c.Body {
		if in.At < 0 || in.At > 8192 || !modelInstr(c, in) {
			return false
		}
	}
	return true
}

// modelInstr tells whether an instruction's Op, A, B and Bits are in form.
func modelInstr(c api.Code, in api.Instr) bool {
	number := func(n, many int) bool { return n >= 0 && n < many }
	if in.Op != opFloat && in.Bits != 0 {
		return false
	}
	switch in.Op {
	case opReadElem, opWriteElem:
		if in.B < 1 || in.B > 64 || !number(in.A, len(c.Places)) || in.B > len(c.Places)-in.A {
			return false
		}
		for i := in.A; i < in.A+in.B; i++ {
			if c.Places[i] != c.Places[in.A] {
				return false
			}
		}
		return true
	case opJumpIf, opShort:
		return number(in.A, len(c.Body)) && number(in.B, 2)
	}
	if in.B != 0 {
		return false
	}
	switch in.Op {
	case opInt:
		return in.A >= 0
	case opBool:
		return in.A == 0 || in.A == 1
	case opLocal, opSetLocal:
		return number(in.A, 32)
	case opRead, opWrite:
		return number(in.A, len(c.Places))
	case opUnary:
		return in.A >= 1 && in.A <= 4
	case opBinary:
		return in.A >= 1 && in.A <= 11
	case opJump:
		return number(in.A, len(c.Body))
	case opLock, opUnlock:
		return number(in.A, c.Mutexes)
	case opSend, opRecv:
		return number(in.A, len(c.Chans))
	case opGet, opPut, opAdd:
		return number(in.A, c.Atomics)
	case opGo, opCall:
		return number(in.A, len(c.Funcs))
	case opFloat, opTurn, opReturn, opFail:
		return in.A == 0
	}
	return false
}

// modelBytes is the bytes of a code, be it in form or not, as far as its numbers fit into theirs.
func modelBytes(c api.Code) []byte {
	var b []byte
	four := func(list ...int) {
		for _, n := range list {
			b = binary.BigEndian.AppendUint32(b, uint32(n))
		}
	}
	four(len(c.Places), c.Mutexes, c.Atomics, len(c.Chans), len(c.Funcs), len(c.Body), c.Main)
	four(c.Places...)
	for _, ch := range c.Chans {
		four(ch.Type, ch.Room)
	}
	for _, f := range c.Funcs {
		four(f.Start, f.Params, len(f.Locals))
		four(f.Locals...)
	}
	for _, in := range c.Body {
		b = append(b, byte(in.Op))
		b = binary.BigEndian.AppendUint64(b, uint64(in.A))
		four(in.B)
		b = binary.BigEndian.AppendUint64(b, in.Bits)
		four(in.At)
	}
	return b
}

// modelRead is the code of bytes, be it in form or not; false, if the bytes end too early or too late.
func modelRead(b []byte) (api.Code, bool) {
	at := 0
	wide := func(size int) uint64 {
		var all [8]byte
		if at+size <= len(b) {
			copy(all[8-size:], b[at:at+size])
		}
		at += size
		return binary.BigEndian.Uint64(all[:])
	}
	four := func() int { return int(wide(4)) }
	var n [7]int
	for i := range n {
		n[i] = four()
	}
	c := api.Code{Mutexes: n[1], Atomics: n[2], Main: n[6]}
	for i := 0; i < n[0] && at < len(b); i++ {
		c.Places = append(c.Places, four())
	}
	for i := 0; i < n[3] && at < len(b); i++ {
		c.Chans = append(c.Chans, api.Chan{Type: four(), Room: four()})
	}
	for i := 0; i < n[4] && at < len(b); i++ {
		f := api.Entry{Start: four(), Params: four()}
		locals := four()
		for j := 0; j < locals && at < len(b); j++ {
			f.Locals = append(f.Locals, four())
		}
		if len(f.Locals) < locals {
			return c, false
		}
		c.Funcs = append(c.Funcs, f)
	}
	for i := 0; i < n[5] && at < len(b); i++ {
		c.Body = append(c.Body, api.Instr{Op: int(wide(1)), A: int(wide(8)), B: four(), Bits: wide(8), At: four()})
	}
	whole := len(c.Places) == n[0] && len(c.Chans) == n[3] && len(c.Funcs) == n[4] && len(c.Body) == n[5]
	return c, whole && at == len(b)
}

// writable tells whether each number of a code fits into its bytes, so that these are the code's alone.
func writable(c api.Code) bool {
	fits := c.Mutexes >= 0 && c.Atomics >= 0 && c.Main >= 0 && max(c.Mutexes, c.Atomics, c.Main) <= math.MaxUint32
	four := func(list ...int) {
		for _, n := range list {
			fits = fits && n >= 0 && n <= math.MaxUint32
		}
	}
	four(c.Places...)
	for _, ch := range c.Chans {
		four(ch.Type, ch.Room)
	}
	for _, f := range c.Funcs {
		four(f.Start, f.Params)
		four(f.Locals...)
	}
	for _, in := range c.Body {
		four(in.B, in.At)
		fits = fits && in.Op >= 0 && in.Op <= math.MaxUint8
	}
	return fits
}

// modelSame tells whether two codes are the same: deeply, once no list of theirs is nil.
func modelSame(a, b api.Code) bool {
	return reflect.DeepEqual(unnil(a), unnil(b))
}

func unnil(c api.Code) api.Code {
	c.Places, c.Chans, c.Body = append([]int{}, c.Places...), append([]api.Chan{}, c.Chans...), append([]api.Instr{}, c.Body...)
	c.Funcs = append([]api.Entry{}, c.Funcs...)
	for i, f := range c.Funcs {
		c.Funcs[i].Locals = append([]int{}, f.Locals...)
	}
	return c
}
