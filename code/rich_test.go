package code_test

import (
	"slices"
	"testing"

	"stockade/api"
	"stockade/code"
)

// Codes that the tests begin with, and what is asked of all codes.

// Ops by the chapter's table, written out: the tests don't hang on how the package counts them.
const (
	opInt, opFloat, opBool                       = 1, 2, 3
	opLocal, opSetLocal                          = 4, 5
	opRead, opWrite, opReadElem, opWriteElem     = 6, 7, 8, 9
	opUnary, opBinary, opJump, opJumpIf, opShort = 10, 11, 12, 13, 14
	opLock, opUnlock, opSend, opRecv             = 15, 16, 17, 18
	opGet, opPut, opAdd, opGo, opCall            = 19, 20, 21, 22, 23
	opTurn, opReturn, opFail                     = 24, 25, 26
)

// least is the smallest code in form.
func least() api.Code {
	return api.Code{Funcs: []api.Entry{{}}, Body: []api.Instr{{Op: opReturn}}}
}

// rich is a code in form with an instruction of every Op, instruction i being of Op i + 1, and some of each object: 6 places, 2 mutexes, 3 atomics, 4 channels, 3 functions, 26 instructions.
func rich() api.Code {
	return api.Code{
		Places:  []int{1, 1, 1, 2, 2, 3},
		Mutexes: 2,
		Atomics: 3,
		Chans:   []api.Chan{{Type: 1, Room: 0}, {Type: 2, Room: 8}, {Type: 3, Room: 1}, {Type: 1, Room: 7}},
		Funcs:   []api.Entry{{Start: 0, Params: 4, Locals: []int{1, 2, 3, 1}}, {Start: 9, Locals: []int{3}}, {Start: 25, Params: 1, Locals: []int{2, 2, 2}}},
		Main:    1,
		Body: []api.Instr{
			{Op: opInt, A: 7, At: 1}, {Op: opFloat, Bits: 0x3ff0000000000000, At: 2}, {Op: opBool, A: 1, At: 3},
			{Op: opLocal, A: 3, At: 4}, {Op: opSetLocal, A: 2, At: 5},
			{Op: opRead, A: 5, At: 6}, {Op: opWrite, A: 4, At: 7},
			{Op: opReadElem, A: 1, B: 2, At: 8}, {Op: opWriteElem, A: 3, B: 1, At: 9},
			{Op: opUnary, A: 4, At: 10}, {Op: opBinary, A: 11, At: 11},
			{Op: opJump, A: 25, At: 12}, {Op: opJumpIf, A: 3, B: 1, At: 13}, {Op: opShort, A: 14, B: 1, At: 14},
			{Op: opLock, A: 1, At: 15}, {Op: opUnlock, A: 1, At: 16},
			{Op: opSend, A: 3, At: 17}, {Op: opRecv, A: 2, At: 18},
			{Op: opGet, A: 2, At: 19}, {Op: opPut, A: 1, At: 20}, {Op: opAdd, A: 2, At: 21},
			{Op: opGo, A: 2, At: 22}, {Op: opCall, A: 1, At: 23},
			{Op: opTurn, At: 24}, {Op: opReturn, At: 25}, {Op: opFail, At: 8192},
		},
	}
}

// greatest is a code in form that has as much of everything as there may be.
func greatest() api.Code {
	c := api.Code{
		Places:  slices.Repeat([]int{api.TFloat}, api.MaxPlaces),
		Mutexes: 10,
		Atomics: 11,
		Chans:   slices.Repeat([]api.Chan{{Type: api.TBool, Room: api.MaxRoom}}, 11),
		Main:    api.MaxFuncs - 1,
		Body:    slices.Repeat([]api.Instr{{Op: opJump, A: api.MaxCode - 1, At: api.MaxText}}, api.MaxCode),
	}
	for i := range api.MaxFuncs {
		f := api.Entry{Start: i, Params: api.MaxParams, Locals: slices.Repeat([]int{api.TInt}, api.MaxLocals)}
		c.Funcs = append(c.Funcs, f)
	}
	c.Funcs[api.MaxFuncs-1].Params = 0
	c.Funcs[api.MaxFuncs-1].Start = api.MaxCode - 1
	return c
}

// apart is a code of the same, in memory of its own.
func apart(c api.Code) api.Code {
	c.Places, c.Chans, c.Funcs, c.Body = slices.Clone(c.Places), slices.Clone(c.Chans), slices.Clone(c.Funcs), slices.Clone(c.Body)
	for i := range c.Funcs {
		c.Funcs[i].Locals = slices.Clone(c.Funcs[i].Locals)
	}
	return c
}

// with is a code of its own with a change.
func with(c api.Code, change func(c *api.Code)) api.Code {
	c = apart(c)
	change(&c)
	return c
}

// zero tells whether there is nothing in a code.
func zero(c api.Code) bool {
	return len(c.Places)+len(c.Chans)+len(c.Funcs)+len(c.Body) == 0 && c.Mutexes == 0 && c.Atomics == 0 && c.Main == 0
}

// takes asks that a code is in form, that Put writes the model's bytes, and that Get gives the code back.
func takes(t *testing.T, what string, c api.Code) {
	t.Helper()
	if err := code.Check(c); err != nil {
		t.Errorf("%s: Check = %v, want nil", what, err)
	}
	b, err := code.Put(c)
	if err != nil || string(b) != string(modelBytes(c)) {
		t.Errorf("%s: Put = %x, %v, want %x", what, b, err, modelBytes(c))
	}
	d, err := code.Get(b)
	if err != nil || !modelSame(c, d) || !code.Same(c, d) || !code.Same(d, c) {
		t.Errorf("%s: Get of Put = %v, %v, want %v", what, d, err, c)
	}
}

// refuses asks that a code isn't in form, with nothing beside the error.
func refuses(t *testing.T, what string, c api.Code) {
	t.Helper()
	if err := code.Check(c); err != api.ErrCode {
		t.Errorf("%s: Check = %v, want %v", what, err, api.ErrCode)
	}
	if b, err := code.Put(c); len(b) > 0 || err != api.ErrCode {
		t.Errorf("%s: Put = %x, %v, want %v", what, b, err, api.ErrCode)
	}
	if writable(c) {
		refusesBytes(t, what, modelBytes(c))
	}
}

// refusesBytes asks that bytes aren't those of a code in form, with nothing beside the error.
func refusesBytes(t *testing.T, what string, b []byte) {
	t.Helper()
	if c, err := code.Get(b); !zero(c) || err != api.ErrCode {
		t.Errorf("%s: Get of %x = %v, %v, want %v", what, b, c, err, api.ErrCode)
	}
}
