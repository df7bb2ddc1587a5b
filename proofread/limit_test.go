package proofread_test

import (
	"slices"
	"strings"
	"testing"

	"stockade/api"
)

// The tests of P16.1 at the limits, on codes that aren't in form, and on several functions.

// pile is a code that puts so many types onto the stack, one after the other, and does more then.
func pile(many int, push, then string) api.Code {
	body, _ := listed(strings.Repeat(push+", ", many) + then)
	return around(body, 0)
}

// TestMostTypesOnAStack: just MaxStack of them, and one more, of each instruction that puts one there.
func TestMostTypesOnAStack(t *testing.T) {
	for _, push := range []string{"Int 1", "Float 1", "Bool 0", "Local 0", "Local 1", "Local 2", "Read 0", "Read 3", "Read 5", "Recv 0", "Recv 1", "Recv 2", "Get 1"} {
		for _, then := range []string{"Turn, Jump 64", "Int 1, Fail", "Get 0, Put 0, Return", "Read 1, Fail", "Recv 2, Turn", "Local 2, Fail", "Float 1, Fail", "Bool 1, Fail"} {
			c := pile(api.MaxStack, push, then)
			if ok := checkModel(t, c); ok != strings.HasPrefix(then, "Turn") {
				t.Errorf("%s and %s: %v", push, then, ok)
			}
		}
		for many := api.MaxStack - 2; many <= api.MaxStack+2; many++ {
			c := pile(many, push, "Int 7, Fail")
			if ok := checkModel(t, c); ok != (many < api.MaxStack) {
				t.Errorf("%d times %s: %v", many+1, push, ok)
			}
		}
	}
}

// TestFullStacks: instructions that don't make a stack of just MaxStack types longer.
func TestFullStacks(t *testing.T) {
	full := strings.Repeat("i", api.MaxStack)
	for _, x := range []struct{ then, stacks string }{
		{"Fail", "64"},
		{"Binary 1, Fail", "64 63"},
		{"Unary 4, SetLocal 1, Fail", "64 64f 63"},
		{"ReadElem 0 2, Fail", "64 64"},
		{"WriteElem 0 2, Fail", "64 62"},
		{"Turn, Lock 0, Unlock 0, Go 0, Call 1, Fail", "64 64 64 64 64 64"},
		{"Jump 66, Turn, Fail", "64  64"},
		{"Turn, Jump 64", "64 64"},
		{"SetLocal 0, Bool 1, JumpIf 67 0, Fail", "64 63 64b 63"},
		{"SetLocal 0, Bool 1, Short 69 0, Fail, Int 1, JumpIf 70 1, Fail", "64 63 64b 63  64b 63"},
		{"Put 0, Get 0, Add 0, Recv 0, Send 0, Int 1, Fail", "64 63 64 63 64 63 64"},
	} {
		c := pile(api.MaxStack, "Int 1", x.then)
		var want []string
		for i := range api.MaxStack {
			want = append(want, full[:i])
		}
		for _, word := range strings.Split(x.stacks, " ") {
			switch {
			case word == "":
				want = append(want, "")
			case len(word) == 2:
				want = append(want, full[:10*(word[0]-'0')+word[1]-'0'])
			default:
				want = append(want, full[:10*(word[0]-'0')+word[1]-'0'-1]+word[2:])
			}
		}
		checkRight(t, c, append(want, make([]string, 2*len(others))...))
	}
}

// TestRoundsThatPile: a round that leaves a type more each time isn't right, however soon it would come to the limit.
func TestRoundsThatPile(t *testing.T) {
	for _, many := range []int{0, 1, 62, 63, 64} {
		checkWrong(t, pile(many, "Int 1", replaced("Turn, Int 1, Jump %", many)))
	}
}

// TestMostInstructions: codes of just MaxCode instructions, and of one more.
func TestMostInstructions(t *testing.T) {
	turn, back, one := instr("Turn"), instr("Jump 0"), instr("Int 1")
	bodies := []func(n int) ([]api.Instr, []string){
		func(n int) ([]api.Instr, []string) { // all of them in a round
			return append(slices.Repeat([]api.Instr{turn}, n-1), back), make([]string, n)
		},
		func(n int) ([]api.Instr, []string) { // each one jumps to the one behind
			var list []api.Instr
			for i := range n - 1 {
				list = append(list, api.Instr{Op: 12, A: min(i+1, api.MaxCode-1)})
			}
			return append(list, instr("Return")), make([]string, n)
		},
		func(n int) ([]api.Instr, []string) { // all but 64 with a stack as long as may be
			list := slices.Repeat([]api.Instr{one}, 64)
			list = append(list, slices.Repeat([]api.Instr{turn}, n-65)...)
			full := strings.Repeat("i", 64)
			stacks := slices.Repeat([]string{full}, n)
			for i := range 64 {
				stacks[i] = full[:i]
			}
			return append(list, instr("Fail")), stacks
		},
		func(n int) ([]api.Instr, []string) { // none but the first can be come to
			return append([]api.Instr{instr("Return")}, slices.Repeat([]api.Instr{instr("Binary 5")}, n-1)...), make([]string, n)
		},
	}
	for _, body := range bodies {
		for _, n := range []int{api.MaxCode - 1, api.MaxCode, api.MaxCode + 1} {
			list, want := body(n)
			c := api.Code{Funcs: []api.Entry{{}}, Body: list}
			if n <= api.MaxCode {
				checkRight(t, c, want)
				checkWrong(t, with(c, func(c *api.Code) { c.Body[0] = instr("Put 0") }))
				checkWrong(t, with(c, func(c *api.Code) { c.Atomics, c.Body[0] = 1, instr("Put 0") }))
			} else {
				checkWrong(t, c)
			}
		}
	}
	long := append(slices.Repeat([]api.Instr{one, instr("SetLocal 0")}, api.MaxCode/2-1), one, instr("Fail"))
	c := api.Code{Funcs: []api.Entry{{Locals: []int{1}}}, Body: long}
	if !checkModel(t, c) {
		t.Error("a long code isn't right")
	}
	c.Body[len(c.Body)-1] = instr("Return")
	checkWrong(t, c)
}

// rich is a right code with some of everything, of three functions.
func rich() api.Code {
	c := one("Local 0, SetLocal 2, Turn, Local 1, Short 6 1, Bool 1, JumpIf 10 0, Int 1, Put 1, Jump 2, Return, " +
		"Int 5, Int 0, Float 1, WriteElem 3 2, Int 2, Bool 1, Call 0, Lock 1, Recv 1, Unary 3, Fail, " +
		"Read 1, Read 2, Binary 8, JumpIf 27 1, Turn, Go 1, Unlock 0, Return")
	c.Places = types("iiiffb")
	c.Mutexes, c.Atomics = 2, 3
	c.Chans = []api.Chan{{Type: api.TBool, Room: 8}, {Type: api.TFloat}}
	c.Funcs = []api.Entry{{Params: 2, Locals: types("ibi")}, {Start: 11}, {Start: 22, Params: 1, Locals: types("f")}}
	c.Main = 1
	return c
}

// TestSeveralFunctions: what stacks a code of some has.
func TestSeveralFunctions(t *testing.T) {
	checkRight(t, rich(), []string{
		"", "i", "", "", "b", "", "b", "", "i", "", "",
		"", "i", "ii", "iif", "i", "ii", "iib", "i", "i", "if", "ii",
		"", "i", "ii", "b", "", "", "", "",
	})
}

// TestEachFunctionIsAsked, be it called or not, and Main or not.
func TestEachFunctionIsAsked(t *testing.T) {
	for many := 1; many <= api.MaxFuncs; many++ {
		var c api.Code
		for i := range many {
			c.Funcs = append(c.Funcs, api.Entry{Start: 3 * i})
			c.Body = append(c.Body, instr("Turn"), api.Instr{Op: 12, A: 3*i + 2}, instr("Return"))
		}
		checkRight(t, c, make([]string, 3*many))
		for i := range many {
			for _, in := range []string{"Int 1", "Binary 1", "Fail", "Local 0", "Jump 0"} {
				checkWrong(t, with(c, func(c *api.Code) { c.Body[3*i] = instr(in) }))
			}
			d := with(c, func(c *api.Code) { c.Body[3*i+2] = instr("Turn") }) // falls into the next one, or behind the code's end
			checkWrong(t, d)
			for to := range 3 * many { // out of its function, or within
				d := with(c, func(c *api.Code) { c.Body[3*i+1].A = to })
				if ok := checkModel(t, d); ok != (to == 3*i || to == 3*i+2) {
					t.Errorf("a jump to %d in function %d of %d: %v", to, i, many, ok)
				}
			}
		}
	}
}

// TestNotInForm: codes that would be right, were they in form.
func TestNotInForm(t *testing.T) {
	if !checkModel(t, rich()) {
		t.Fatal("rich isn't right")
	}
	for i, change := range []func(c *api.Code){
		func(c *api.Code) { c.Places[0] = 0 },
		func(c *api.Code) { c.Places[5] = 4 },
		func(c *api.Code) { c.Places = slices.Concat(c.Places, slices.Repeat([]int{1}, api.MaxPlaces-5)) },
		func(c *api.Code) { c.Mutexes = 1 },
		func(c *api.Code) { c.Mutexes = -1 },
		func(c *api.Code) { c.Mutexes = 28 },
		func(c *api.Code) { c.Atomics = -1 },
		func(c *api.Code) { c.Atomics = 1 << 62 },
		func(c *api.Code) { c.Chans[0].Type = 0 },
		func(c *api.Code) { c.Chans[0].Room = 9 },
		func(c *api.Code) { c.Chans[1].Room = -1 },
		func(c *api.Code) { c.Chans = c.Chans[:1] },
		func(c *api.Code) { c.Main = 0 }, // it has parameters
		func(c *api.Code) { c.Main = 3 },
		func(c *api.Code) { c.Main = -1 },
		func(c *api.Code) { c.Funcs[0].Start = 1 },
		func(c *api.Code) { c.Funcs[0].Start = -1 },
		func(c *api.Code) { c.Funcs[2].Start = 30 },
		func(c *api.Code) { c.Funcs[2].Start = 11 },
		func(c *api.Code) { c.Funcs[1].Start = 0 },
		func(c *api.Code) { c.Funcs[2].Params = 2 },
		func(c *api.Code) { c.Funcs[2].Params = -1 },
		func(c *api.Code) { c.Funcs[0].Locals[2] = 0 },
		func(c *api.Code) { c.Funcs[2].Locals = slices.Repeat([]int{1}, api.MaxLocals+1) },
		func(c *api.Code) { c.Body[0].B = 1 },
		func(c *api.Code) { c.Body[0].Bits = 1 },
		func(c *api.Code) { c.Body[0].At = -1 },
		func(c *api.Code) { c.Body[29].At = api.MaxText + 1 },
		func(c *api.Code) { c.Body[7].A = -1 },
		func(c *api.Code) { c.Body[5].A = 2 },
		func(c *api.Code) { c.Body[6].B = 2 },
		func(c *api.Code) { c.Body[4].B = -1 },
		func(c *api.Code) { c.Body[14].B = 3 },
		func(c *api.Code) { c.Body[14].B = 0 },
		func(c *api.Code) { c.Body[24].A = 12 },
		func(c *api.Code) { c.Body[24].A = 0 },
		func(c *api.Code) { c.Body[2].Op = 27 },
		func(c *api.Code) { c.Body[2].Op = 0 },
		func(c *api.Code) { c.Body[2].Op = -24 },
		func(c *api.Code) { c.Body[2].Op = 24 + 1<<32 },
		func(c *api.Code) { c.Body[9].A = 1<<32 + 2 },
		func(c *api.Code) { c.Funcs = nil },
		func(c *api.Code) { c.Funcs, c.Main = []api.Entry{}, 0 },
		func(c *api.Code) { c.Body = nil },
		func(c *api.Code) { *c = api.Code{} },
		func(c *api.Code) {
			for i := range api.MaxFuncs {
				c.Funcs = append(c.Funcs, api.Entry{Start: 30 + i})
				c.Body = append(c.Body, instr("Return"))
			}
		},
	} {
		c := with(rich(), change)
		if checkWrong(t, c); t.Failed() {
			t.Fatalf("change %d", i)
		}
	}
}

// TestDeepOfNothing: all stacks are empty.
func TestDeepOfNothing(t *testing.T) {
	for _, c := range []api.Code{one("Return"), one("Turn, Jump 0"), one("Return, Int 1, Fail")} {
		checkRight(t, c, make([]string, len(c.Body)))
	}
}
