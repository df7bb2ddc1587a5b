package proofread_test

import (
	"fmt"
	"slices"
	"strings"
	"testing"

	"stockade/api"
)

// The tests of P16.1 on what each instruction needs and leaves, by itself.

// A need is an instruction in around, and what it takes from the top and leaves there: one of several ways.
type need struct {
	instr, ways string
}

// needs is of each Op, of which the one behind alone is next, each object, operator and function that an instruction may name in around.
var needs = []need{
	{"Int 0", ">i"}, {"Int 9223372036854775807", ">i"},
	{"Float 0", ">f"}, {"Float 7ff8000000000001", ">f"},
	{"Bool 0", ">b"}, {"Bool 1", ">b"},
	{"Local 0", ">i"}, {"Local 1", ">f"}, {"Local 2", ">b"},
	{"SetLocal 0", "i>"}, {"SetLocal 1", "f>"}, {"SetLocal 2", "b>"},
	{"Read 0", ">i"}, {"Read 1", ">i"}, {"Read 2", ">f"}, {"Read 3", ">f"}, {"Read 4", ">b"}, {"Read 5", ">b"},
	{"Write 0", "i>"}, {"Write 1", "i>"}, {"Write 2", "f>"}, {"Write 3", "f>"}, {"Write 4", "b>"}, {"Write 5", "b>"},
	{"ReadElem 0 2", "i>i"}, {"ReadElem 1 1", "i>i"}, {"ReadElem 2 2", "i>f"}, {"ReadElem 3 1", "i>f"}, {"ReadElem 4 2", "i>b"}, {"ReadElem 5 1", "i>b"},
	{"WriteElem 0 2", "ii>"}, {"WriteElem 1 1", "ii>"}, {"WriteElem 2 2", "if>"}, {"WriteElem 3 1", "if>"}, {"WriteElem 4 2", "ib>"}, {"WriteElem 5 1", "ib>"},
	{"Unary 1", "i>i f>f"}, {"Unary 2", "b>b"}, {"Unary 3", "f>i"}, {"Unary 4", "i>f"},
	{"Binary 1", "ii>i ff>f"}, {"Binary 2", "ii>i ff>f"}, {"Binary 3", "ii>i ff>f"}, {"Binary 4", "ii>i ff>f"},
	{"Binary 5", "ii>i"},
	{"Binary 6", "ii>b ff>b bb>b"}, {"Binary 7", "ii>b ff>b bb>b"},
	{"Binary 8", "ii>b ff>b"}, {"Binary 9", "ii>b ff>b"}, {"Binary 10", "ii>b ff>b"}, {"Binary 11", "ii>b ff>b"},
	{"Lock 0", ">"}, {"Lock 1", ">"}, {"Unlock 0", ">"}, {"Unlock 1", ">"}, {"Turn", ">"},
	{"Send 0", "i>"}, {"Send 1", "f>"}, {"Send 2", "b>"},
	{"Recv 0", ">i"}, {"Recv 1", ">f"}, {"Recv 2", ">b"},
	{"Get 0", ">i"}, {"Get 1", ">i"}, {"Put 0", "i>"}, {"Put 1", "i>"}, {"Add 0", "i>"}, {"Add 1", "i>"},
	{"Go 0", ">"}, {"Go 1", ">"}, {"Go 2", "i>"}, {"Go 3", "f>"}, {"Go 4", "b>"}, {"Go 5", "ifb>"}, {"Go 6", "bbif>"},
	{"Call 0", ">"}, {"Call 1", ">"}, {"Call 2", "i>"}, {"Call 3", "f>"}, {"Call 4", "b>"}, {"Call 5", "ifb>"}, {"Call 6", "bbif>"},
}

// after is what an instruction leaves of a stack; false, if its need doesn't hold.
func after(stack, ways string) (string, bool) {
	for _, way := range strings.Fields(ways) {
		takes, gives, _ := strings.Cut(way, ">")
		if rest, holds := strings.CutSuffix(stack, takes); holds {
			return rest + gives, true
		}
	}
	return "", false
}

// allStacks is all stacks of up to so many types.
func allStacks(most int) []string {
	list := []string{""}
	for i := 0; i < len(list); i++ {
		if len(list[i]) < most {
			list = append(list, list[i]+"i", list[i]+"f", list[i]+"b")
		}
	}
	return list
}

// A maker makes a listing with the stacks in it.
type maker struct {
	texts []string
	stack string
}

func (m *maker) say(instr, leaves string) {
	m.texts = append(m.texts, fmt.Sprintf("%s [%s]", instr, m.stack))
	m.stack = leaves
}

// fill puts types onto the stack.
func (m *maker) fill(stack string) {
	for _, letter := range stack {
		m.say(map[rune]string{'i': "Int 1", 'f': "Float 1", 'b': "Bool 1"}[letter], m.stack+string(letter))
	}
}

// empty takes all from the stack, and returns.
func (m *maker) empty() {
	for m.stack != "" {
		top := len(m.stack) - 1
		m.say(map[byte]string{'i': "SetLocal 0", 'f': "SetLocal 1", 'b': "SetLocal 2"}[m.stack[top]], m.stack[:top])
	}
	m.say("Return", "")
}

// fail ends with whatever stack, so that nothing behind a wrong instruction is wrong, too.
func (m *maker) fail() {
	m.say("Int 1", "")
	m.say("Fail", "")
}

func (m *maker) listing() string {
	return strings.Join(m.texts, ", ")
}

// TestNeeds: each instruction with every stack of up to five types: it takes what it needs from the top alone, and leaves what is beneath.
func TestNeeds(t *testing.T) {
	stacks := allStacks(5)
	if len(stacks) != 364 {
		t.Fatal(len(stacks))
	}
	for _, n := range needs {
		for _, stack := range stacks {
			var m maker
			m.fill(stack)
			leaves, holds := after(stack, n.ways)
			m.say(n.instr, leaves)
			if holds {
				m.empty()
				right(t, m.listing())
			} else {
				m.fail()
				wrong(t, m.listing())
			}
		}
		if t.Failed() {
			return
		}
	}
}

// TestEveryOpHasANeed: those that aren't in needs have tests of their own here.
func TestEveryOpHasANeed(t *testing.T) {
	var names []string
	for _, n := range needs {
		names = append(names, strings.Fields(n.instr)[0])
	}
	for _, name := range opNames {
		own := slices.Contains([]string{"Jump", "JumpIf", "Short", "Return", "Fail"}, name)
		if own == slices.Contains(names, name) {
			t.Error(name)
		}
	}
}

// TestJumpNeedsNothing: forwards, over wrong instructions that can't be come to, its stack is what it was.
func TestJumpNeedsNothing(t *testing.T) {
	for _, stack := range allStacks(4) {
		var m maker
		m.fill(stack)
		m.say(fmt.Sprint("Jump ", len(stack)+3), "")
		m.say("Binary 5", "")
		m.say("SetLocal 31", stack)
		m.empty()
		right(t, m.listing())
	}
}

// TestJumpIfNeedsABool, to the one behind and to one further on; both are come to with that TBool gone.
func TestJumpIfNeedsABool(t *testing.T) {
	for _, stack := range allStacks(4) {
		for _, over := range []int{0, 1, 2} {
			for b := range 2 {
				var m maker
				m.fill(stack)
				leaves, holds := after(stack, "b>")
				m.say(fmt.Sprintf("JumpIf %d %d", len(stack)+1+over, b), leaves)
				for range over {
					m.say("Turn", leaves)
				}
				if holds {
					m.empty()
					right(t, m.listing())
				} else {
					m.fail()
					wrong(t, m.listing())
				}
			}
		}
	}
}

// TestShortNeedsABool: the one behind is come to with it gone, the other one with it.
func TestShortNeedsABool(t *testing.T) {
	for _, stack := range allStacks(4) {
		for b := range 2 {
			var m maker
			m.fill(stack)
			leaves, holds := after(stack, "b>")
			m.say(fmt.Sprintf("Short %d %d", len(stack)+3, b), leaves)
			m.say("Int 1", leaves+"i")
			m.say("Fail", stack)
			if holds {
				m.empty()
				right(t, m.listing())
			} else {
				m.fail()
				wrong(t, m.listing())
			}
		}
	}
}

// TestReturnNeedsAnEmptyStack.
func TestReturnNeedsAnEmptyStack(t *testing.T) {
	for _, stack := range allStacks(4) {
		var m maker
		m.fill(stack)
		m.say("Return", "")
		if stack == "" {
			right(t, m.listing())
		} else {
			wrong(t, m.listing())
		}
	}
}

// TestFailNeedsAnInt: what is beneath it may stay.
func TestFailNeedsAnInt(t *testing.T) {
	for _, stack := range allStacks(4) {
		var m maker
		m.fill(stack)
		m.say("Fail", "")
		if strings.HasSuffix(stack, "i") {
			right(t, m.listing())
		} else {
			wrong(t, m.listing())
		}
	}
}

// TestNothingIsNextOfReturnAndFail: what stands behind them needn't be right.
func TestNothingIsNextOfReturnAndFail(t *testing.T) {
	right(t, "Return [], Fail []")
	right(t, "Int 1 [], Fail [i], Return []")
	right(t, "Int 1 [], Int 1 [i], Fail [ii], Binary 5 []")
}

// TestLocalsAreTheFunctions: a local in form needn't be one of the function in which the instruction stands, though another one may have it.
func TestLocalsAreTheFunctions(t *testing.T) {
	for n := 3; n < api.MaxLocals; n++ {
		wrong(t, fmt.Sprintf("Local %d, SetLocal 0, Return", n))
		for _, push := range []string{"Int 1", "Float 1", "Bool 1"} {
			wrong(t, fmt.Sprintf("%s, SetLocal %d, Return", push, n))
		}
	}
	list := types("ifbbfiifbbfiifbbfiifbbfiifbbfiif")
	for locals := range api.MaxLocals + 1 {
		for params := range min(locals, api.MaxParams) + 1 {
			c := with(one("Turn, Return, Local 0, SetLocal 0, Return, Return"), func(c *api.Code) {
				c.Funcs = []api.Entry{{Locals: list}, {Start: 2, Params: params, Locals: list[:locals]}, {Start: 5, Locals: list}}
			})
			for n := range api.MaxLocals {
				c := with(c, func(c *api.Code) { c.Body[2].A, c.Body[3].A = n, n })
				if n < locals {
					checkRight(t, c, []string{"", "", "", lettered(list[n : n+1]), "", ""})
				} else {
					checkWrong(t, c)
				}
			}
		}
	}
	checkWrong(t, one("Local 0, Fail"))
	checkWrong(t, one("Int 0, SetLocal 0, Return"))
}

// TestParametersAlone: a function's further locals are no arguments; of no parameters none goes.
func TestParametersAlone(t *testing.T) {
	for _, call := range []string{"Go", "Call"} {
		right(t, "Bool 0 [], "+call+" 4 [b], Return []")
		wrong(t, "Bool 0, Float 0, Int 0, "+call+" 4, Return")
		right(t, "Int 0 [], "+call+" 1 [i], SetLocal 0 [i], Return []")
		right(t, call+" 0 [], Return []") // main itself, of three locals
		wrong(t, "Int 0, Float 0, Bool 0, "+call+" 0, Return")
		wrong(t, "Int 0, Bool 0, Float 0, "+call+" 5, Return")
		wrong(t, "Bool 0, Float 0, Int 0, "+call+" 5, Return")
	}
}
