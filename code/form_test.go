package code_test

import (
	"fmt"
	"math"
	"slices"
	"testing"

	"stockade/api"
	"stockade/code"
)

// The tests of P14.1 on what is in form and what isn't.

func TestExampleOneReturn(t *testing.T) {
	takes(t, "the one instruction Return", least())
}

func TestInForm(t *testing.T) {
	takes(t, "rich", rich())
	takes(t, "greatest", greatest())
}

// TestNilAndEmptyLists mean the same, in form or not.
func TestNilAndEmptyLists(t *testing.T) {
	c := api.Code{Places: []int{}, Chans: []api.Chan{}, Funcs: []api.Entry{{Locals: []int{}}}, Body: []api.Instr{{Op: opReturn}}}
	takes(t, "empty lists", c)
	refuses(t, "no function", api.Code{Funcs: []api.Entry{}, Body: []api.Instr{{Op: opReturn}}})
	refuses(t, "no function", api.Code{Body: []api.Instr{{Op: opReturn}}})
	refuses(t, "no instruction", api.Code{Funcs: []api.Entry{{}}, Body: []api.Instr{}})
	refuses(t, "no instruction", api.Code{Funcs: []api.Entry{{}}})
	refuses(t, "nothing", api.Code{})
}

// An edge tells of an Op's instruction in rich which numbers its A and B may be, at each bound, and which they may not.
type edge struct {
	op      int
	a, notA []int
	b, notB []int
	anyBits bool
}

// outside is numbers that no field but Int's A may be, and bounds whose low bytes are 0 or 1: such a number may not be cut.
func outside(more ...int) []int {
	return append(more, -1, -2, math.MinInt, math.MinInt+1, math.MaxInt, 1<<31, 1<<32, 1<<32+1, 1<<40, 1<<62, 1<<16, 1<<8+1<<16)
}

func edges() []edge {
	zero := []int{0}
	not := outside(1, 2, 3, 255, 256)
	field := func(op int, first, last int) edge {
		return edge{op: op, a: []int{first, (first + last) / 2, last}, notA: outside(first-1, last+1, last+2), b: zero, notB: not}
	}
	pair := func(op, first, last int) edge {
		e := field(op, first, last)
		e.b, e.notB = []int{0, 1}, outside(2, 3, 255, 256)
		return e
	}
	elem := func(op int) edge { // which A and B go together TestElements asks
		return edge{op: op, notA: outside(6, 7), notB: outside(0, 7, 64, 65)}
	}
	return []edge{
		{op: opInt, a: []int{0, 1, 255, 256, 1 << 32, math.MaxInt - 1, math.MaxInt}, notA: []int{-1, -2, -255, math.MinInt, math.MinInt + 1}, b: zero, notB: not},
		{op: opFloat, a: zero, notA: not, b: zero, notB: not, anyBits: true},
		field(opBool, 0, 1),
		field(opLocal, 0, 31), field(opSetLocal, 0, 31),
		field(opRead, 0, 5), field(opWrite, 0, 5),
		elem(opReadElem), elem(opWriteElem),
		field(opUnary, 1, 4), field(opBinary, 1, 11),
		field(opJump, 0, 25), pair(opJumpIf, 0, 25), pair(opShort, 0, 25),
		field(opLock, 0, 1), field(opUnlock, 0, 1),
		field(opSend, 0, 3), field(opRecv, 0, 3),
		field(opGet, 0, 2), field(opPut, 0, 2), field(opAdd, 0, 2),
		field(opGo, 0, 2), field(opCall, 0, 2),
		{op: opTurn, a: zero, notA: not, b: zero, notB: not},
		{op: opReturn, a: zero, notA: not, b: zero, notB: not},
		{op: opFail, a: zero, notA: not, b: zero, notB: not},
	}
}

// changed is rich with a change of the instruction of an Op.
func changed(op int, change func(in *api.Instr)) api.Code {
	return with(rich(), func(c *api.Code) { change(&c.Body[op-1]) })
}

func TestEveryFieldOfEveryOp(t *testing.T) {
	all := edges()
	if len(all) != 26 {
		t.Fatal(len(all))
	}
	for i, e := range all {
		if e.op != i+1 {
			t.Fatal(e.op, i)
		}
		for _, n := range e.a {
			takes(t, fmt.Sprintf("Op %d, A %d", e.op, n), changed(e.op, func(in *api.Instr) { in.A = n }))
		}
		for _, n := range e.notA {
			refuses(t, fmt.Sprintf("Op %d, A %d", e.op, n), changed(e.op, func(in *api.Instr) { in.A = n }))
		}
		for _, n := range e.b {
			takes(t, fmt.Sprintf("Op %d, B %d", e.op, n), changed(e.op, func(in *api.Instr) { in.B = n }))
		}
		for _, n := range e.notB {
			refuses(t, fmt.Sprintf("Op %d, B %d", e.op, n), changed(e.op, func(in *api.Instr) { in.B = n }))
		}
		for _, bits := range []uint64{1, 2, 255, 1 << 31, 1 << 32, 1 << 52, 1 << 62, 1 << 63, 0x7ff8000000000001, math.MaxUint64 - 1, math.MaxUint64} {
			c, what := changed(e.op, func(in *api.Instr) { in.Bits = bits }), fmt.Sprintf("Op %d, Bits %x", e.op, bits)
			if e.anyBits {
				takes(t, what, c)
			} else {
				refuses(t, what, c)
			}
		}
		takes(t, "Bits 0", changed(e.op, func(in *api.Instr) { in.Bits = 0 }))
		for _, at := range []int{0, 1, 255, 256, api.MaxText - 1, api.MaxText} {
			takes(t, fmt.Sprintf("Op %d, At %d", e.op, at), changed(e.op, func(in *api.Instr) { in.At = at }))
		}
		for _, at := range outside(api.MaxText+1, api.MaxText+2) {
			refuses(t, fmt.Sprintf("Op %d, At %d", e.op, at), changed(e.op, func(in *api.Instr) { in.At = at }))
		}
	}
}

func TestNoOp(t *testing.T) {
	for _, op := range []int{0, 27, 28, 127, 128, 255, 256, 257, 256 + opReturn, 1<<32 + opReturn, -1, -opReturn, opReturn - 256, math.MinInt, math.MaxInt} {
		for at := range rich().Body {
			refuses(t, fmt.Sprintf("Op %d at %d", op, at), with(rich(), func(c *api.Code) { c.Body[at] = api.Instr{Op: op} }))
		}
		refuses(t, fmt.Sprintf("Op %d alone", op), with(least(), func(c *api.Code) { c.Body[0].Op = op }))
	}
}

// TestElements: which rows of rich's places there are, all of them written out, and none besides.
func TestElements(t *testing.T) {
	rows := [][2]int{{0, 1}, {0, 2}, {0, 3}, {1, 1}, {1, 2}, {2, 1}, {3, 1}, {3, 2}, {4, 1}, {5, 1}}
	for _, op := range []int{opReadElem, opWriteElem} {
		for a := -3; a <= 9; a++ {
			for b := -3; b <= 9; b++ {
				c, what := changed(op, func(in *api.Instr) { in.A, in.B = a, b }), fmt.Sprintf("Op %d of %d and %d", op, a, b)
				if slices.Contains(rows, [2]int{a, b}) {
					takes(t, what, c)
				} else {
					refuses(t, what, c)
				}
			}
		}
		for _, wrap := range [][2]int{{math.MaxInt, 1}, {1, math.MaxInt}, {math.MaxInt, math.MaxInt}, {math.MinInt, math.MinInt}, {-1, 2}, {2, -1}, {math.MaxInt - 3, 5}, {-64, 64}} {
			refuses(t, fmt.Sprintf("Op %d of %v", op, wrap), changed(op, func(in *api.Instr) { in.A, in.B = wrap[0], wrap[1] }))
		}
	}
}

// TestManyElements: rows of as many elements as there may be, and one more, at both ends of as many places as there may be; a place of another type anywhere in a row.
func TestManyElements(t *testing.T) {
	for _, op := range []int{opReadElem, opWriteElem} {
		base := with(greatest(), func(c *api.Code) { c.Body = c.Body[:20]; c.Funcs = c.Funcs[15:]; c.Funcs[0].Start = 0; c.Main = 0 })
		row := func(a, b int) api.Code {
			return with(base, func(c *api.Code) {
				c.Body = slices.Repeat([]api.Instr{{Op: opReturn}}, 20)
				c.Body[11] = api.Instr{Op: op, A: a, B: b}
			})
		}
		for _, a := range []int{0, 1, 63, 64} {
			takes(t, fmt.Sprint("64 elements from ", a), row(a, 64))
			refuses(t, fmt.Sprint("65 elements from ", a), row(a, 65))
			for odd := range 128 {
				c := row(a, 64)
				c.Places[odd] = api.TBool
				if odd < a || odd >= a+64 {
					takes(t, fmt.Sprint("another type beside ", odd), c)
				} else {
					refuses(t, fmt.Sprint("another type within ", odd), c)
				}
			}
		}
		takes(t, "the last 63", row(65, 63))
		refuses(t, "one behind the last place", row(65, 64))
		takes(t, "the last one", row(127, 1))
		refuses(t, "one behind the last place", row(127, 2))
		refuses(t, "no place", row(128, 1))
	}
}

// TestNothingOfAKind: a number of something that there is none of at all.
func TestNothingOfAKind(t *testing.T) {
	for _, op := range []int{opRead, opWrite, opLock, opUnlock, opSend, opRecv, opGet, opPut, opAdd} {
		refuses(t, fmt.Sprint("nothing for Op ", op), with(least(), func(c *api.Code) { c.Body[0] = api.Instr{Op: op} }))
	}
	for _, op := range []int{opReadElem, opWriteElem} {
		refuses(t, fmt.Sprint("nothing for Op ", op), with(least(), func(c *api.Code) { c.Body[0] = api.Instr{Op: op, B: 1} }))
	}
	for _, op := range []int{opJump, opJumpIf, opShort, opGo, opCall, opLocal, opSetLocal, opInt, opFloat, opBool} {
		takes(t, fmt.Sprint("0 for Op ", op), with(least(), func(c *api.Code) { c.Body[0] = api.Instr{Op: op} }))
	}
	// Each number is held against its own kind's count, not against another's.
	one := []api.Code{
		with(least(), func(c *api.Code) { c.Places = []int{1} }),
		with(least(), func(c *api.Code) { c.Mutexes = 1 }),
		with(least(), func(c *api.Code) { c.Atomics = 1 }),
		with(least(), func(c *api.Code) { c.Chans = []api.Chan{{Type: 1}} }),
	}
	for kind, ops := range [][]int{{opRead, opWrite}, {opLock, opUnlock}, {opGet, opPut, opAdd}, {opSend, opRecv}} {
		for _, op := range ops {
			for other, c := range one {
				c := with(c, func(c *api.Code) { c.Body[0] = api.Instr{Op: op} })
				if kind == other {
					takes(t, fmt.Sprint("one for Op ", op), c)
				} else {
					refuses(t, fmt.Sprint("one of another kind for Op ", op), c)
				}
			}
		}
	}
}

// TestLocalsOfAnyFunction: the chapter bounds a local by MaxLocals alone; whose it is layer 16 asks.
func TestLocalsOfAnyFunction(t *testing.T) {
	for _, op := range []int{opLocal, opSetLocal} {
		takes(t, "local 31", with(least(), func(c *api.Code) { c.Body[0] = api.Instr{Op: op, A: 31} }))
		refuses(t, "local 32", with(least(), func(c *api.Code) { c.Body[0] = api.Instr{Op: op, A: 32} }))
	}
}

func noTypes() []int {
	return []int{0, 4, 5, -1, 255, 256, 257, 1 << 32, 1<<32 + 1, math.MinInt, math.MaxInt}
}

func TestTypesAndRooms(t *testing.T) {
	for typ := 1; typ <= 3; typ++ {
		takes(t, "a place", with(rich(), func(c *api.Code) { c.Places[5] = typ }))
		takes(t, "a channel", with(rich(), func(c *api.Code) { c.Chans[1].Type = typ }))
		takes(t, "a parameter", with(rich(), func(c *api.Code) { c.Funcs[0].Locals[3] = typ }))
		takes(t, "a local", with(rich(), func(c *api.Code) { c.Funcs[2].Locals[2] = typ }))
	}
	bare := with(rich(), func(c *api.Code) {
		c.Body[opReadElem-1], c.Body[opWriteElem-1] = api.Instr{Op: opTurn}, api.Instr{Op: opTurn}
	})
	for _, typ := range noTypes() {
		for i := range bare.Places { // no element op asks them here
			refuses(t, fmt.Sprintf("place %d of type %d", i, typ), with(bare, func(c *api.Code) { c.Places[i] = typ }))
		}
		refuses(t, "all places", with(rich(), func(c *api.Code) { c.Places = slices.Repeat([]int{typ}, 6) }))
		for i := range rich().Chans {
			refuses(t, fmt.Sprintf("channel %d of type %d", i, typ), with(rich(), func(c *api.Code) { c.Chans[i].Type = typ }))
		}
		for i, f := range rich().Funcs {
			for j := range f.Locals {
				refuses(t, fmt.Sprintf("local %d of %d of type %d", j, i, typ), with(rich(), func(c *api.Code) { c.Funcs[i].Locals[j] = typ }))
			}
		}
	}
	for i := range rich().Chans {
		for room := 0; room <= api.MaxRoom; room++ {
			takes(t, fmt.Sprint("room ", room), with(rich(), func(c *api.Code) { c.Chans[i].Room = room }))
		}
		for _, room := range outside(api.MaxRoom+1, api.MaxRoom+2) {
			refuses(t, fmt.Sprint("room ", room), with(rich(), func(c *api.Code) { c.Chans[i].Room = room }))
		}
	}
}

func TestPlacesCount(t *testing.T) {
	for _, n := range []int{0, 1, 127, 128} {
		takes(t, fmt.Sprint(n, " places"), with(least(), func(c *api.Code) { c.Places = slices.Repeat([]int{3}, n) }))
	}
	for _, n := range []int{129, 130, 1000} {
		refuses(t, fmt.Sprint(n, " places"), with(least(), func(c *api.Code) { c.Places = slices.Repeat([]int{3}, n) }))
	}
}

// TestObjectsCount: mutexes, atomics and channels together, shared out in every way.
func TestObjectsCount(t *testing.T) {
	for mutexes := -1; mutexes <= 34; mutexes++ {
		for atomics := -1; atomics <= 34; atomics++ {
			for chans := range 35 {
				c := least()
				c.Mutexes, c.Atomics, c.Chans = mutexes, atomics, slices.Repeat([]api.Chan{{Type: 1}}, chans)
				want := error(nil)
				if mutexes < 0 || atomics < 0 || mutexes+atomics+chans > 32 {
					want = api.ErrCode
				}
				if err := code.Check(c); err != want {
					t.Errorf("%d mutexes, %d atomics, %d channels: Check = %v", mutexes, atomics, chans, err)
				}
			}
		}
	}
	for _, n := range append(outside(33), 1<<62, 1<<62+16) {
		refuses(t, "mutexes", with(least(), func(c *api.Code) { c.Mutexes = n }))
		refuses(t, "atomics", with(least(), func(c *api.Code) { c.Atomics = n }))
		refuses(t, "mutexes and atomics", with(least(), func(c *api.Code) { c.Mutexes, c.Atomics = n, n }))
		refuses(t, "mutexes and atomics whose sum wraps", with(least(), func(c *api.Code) { c.Mutexes, c.Atomics = n, -n }))
	}
	refuses(t, "a sum that wraps to 0", with(least(), func(c *api.Code) {
		c.Mutexes, c.Atomics = math.MaxInt, math.MaxInt
		c.Chans = slices.Repeat([]api.Chan{{Type: 1}}, 2)
	}))
	refuses(t, "a sum that wraps to 0", with(least(), func(c *api.Code) { c.Mutexes, c.Atomics = math.MinInt, math.MinInt }))
	refuses(t, "below 0 beside others", with(least(), func(c *api.Code) { c.Mutexes, c.Atomics = 33, -1 }))
}

// functions is a code of so many functions, each of one instruction, the first one without parameters.
func functions(many int) api.Code {
	c := api.Code{Body: slices.Repeat([]api.Instr{{Op: opReturn}}, max(many, 1))}
	for i := range many {
		c.Funcs = append(c.Funcs, api.Entry{Start: i})
	}
	return c
}

func TestFunctionsCount(t *testing.T) {
	for n := 1; n <= 16; n++ {
		takes(t, fmt.Sprint(n, " functions"), functions(n))
	}
	for _, n := range []int{0, 17, 18, 100} {
		refuses(t, fmt.Sprint(n, " functions"), functions(n))
	}
}

func TestInstructionsCount(t *testing.T) {
	for _, n := range []int{1, 2, 8191, 8192} {
		takes(t, fmt.Sprint(n, " instructions"), with(least(), func(c *api.Code) { c.Body = slices.Repeat(c.Body, n) }))
	}
	for _, n := range []int{0, 8193, 8194, 20000} {
		refuses(t, fmt.Sprint(n, " instructions"), with(least(), func(c *api.Code) { c.Body = slices.Repeat(c.Body, n) }))
	}
}

func TestMainFunction(t *testing.T) {
	c := functions(5)
	c.Funcs[2].Params, c.Funcs[2].Locals = 1, []int{1}
	c.Funcs[3].Locals = []int{1, 2, 3, 1, 2}
	for _, n := range []int{0, 1, 3, 4} {
		takes(t, fmt.Sprint("Main ", n), with(c, func(c *api.Code) { c.Main = n }))
	}
	for _, n := range outside(2, 5, 6, 16) {
		refuses(t, fmt.Sprint("Main ", n), with(c, func(c *api.Code) { c.Main = n }))
	}
	for _, n := range []int{1, 2, 3, 4, 5, -1} {
		refuses(t, fmt.Sprint("a Main with parameters: ", n), with(c, func(c *api.Code) { c.Main, c.Funcs[3].Params = 3, n }))
	}
}

func TestParamsAndLocals(t *testing.T) {
	for at := range 3 {
		base := functions(4)
		base.Main = 3
		for params := -2; params <= 40; params++ {
			for locals := range 41 {
				c := with(base, func(c *api.Code) {
					c.Funcs[at] = api.Entry{Start: at, Params: params, Locals: slices.Repeat([]int{2}, locals)}
				})
				what := fmt.Sprintf("%d parameters, %d locals", params, locals)
				if params >= 0 && params <= 4 && params <= locals && locals <= 32 {
					takes(t, what, c)
				} else {
					refuses(t, what, c)
				}
			}
		}
		for _, params := range outside() {
			refuses(t, fmt.Sprint(params, " parameters"), with(base, func(c *api.Code) { c.Funcs[at] = api.Entry{Start: at, Params: params, Locals: []int{1, 1, 1, 1}} }))
		}
	}
}

func TestStarts(t *testing.T) {
	starts := func(instrs int, list ...int) api.Code {
		c := api.Code{Body: slices.Repeat([]api.Instr{{Op: opReturn}}, instrs)}
		for _, n := range list {
			c.Funcs = append(c.Funcs, api.Entry{Start: n})
		}
		return c
	}
	for _, list := range [][]int{{0}, {0, 1}, {0, 9}, {0, 1, 2, 3, 4, 5, 6, 7, 8, 9}, {0, 3, 7}, {0, 8, 9}} {
		takes(t, fmt.Sprint("Starts ", list), starts(10, list...))
	}
	for _, list := range [][]int{
		{1}, {9}, {10}, {-1}, {math.MinInt}, {math.MaxInt}, {1, 2}, {-1, 0}, {-1, 1}, {1 << 32},
		{0, 0}, {0, 3, 3}, {0, 5, 4}, {0, 5, 0}, {0, 2, 1, 3}, {0, -1}, {0, math.MinInt},
		{0, 10}, {0, 11}, {0, 9, 10}, {0, 10, 11}, {0, math.MaxInt}, {0, 1 << 32}, {0, 1<<32 + 1}, {0, 1, 1<<32 + 2}, {3, 5, 0}, {0, 10, 5},
	} {
		refuses(t, fmt.Sprint("Starts ", list), starts(10, list...))
	}
	takes(t, "the last instruction", starts(8192, 0, 8191))
	refuses(t, "behind the last instruction", starts(8192, 0, 8192))
}

// TestTwoFaults: one that mends another makes nothing right.
func TestTwoFaults(t *testing.T) {
	refuses(t, "types and sizes", with(greatest(), func(c *api.Code) { c.Places = append(c.Places, 0); c.Body = nil }))
	refuses(t, "Main and Funcs", with(rich(), func(c *api.Code) { c.Funcs, c.Main = nil, 0 }))
	refuses(t, "Op and At", changed(opReturn, func(in *api.Instr) { in.Op, in.At = 0, -1 }))
}
