package proofread_test

import (
	"math/rand"
	"slices"
	"testing"

	"stockade/api"
	"stockade/proofread"
)

// The tests of P16.1 on what is handed in and what is answered: nothing is changed, kept or shared.

// roomy is a copy of a code whose lists have elements behind them that are none of the code's.
func roomy(c api.Code) api.Code {
	c = apart(c)
	c.Places = append(c.Places, 77, 78)[:len(c.Places)]
	c.Chans = append(c.Chans, api.Chan{Type: 77}, api.Chan{Room: 78})[:len(c.Chans)]
	for i, f := range c.Funcs {
		c.Funcs[i].Locals = append(f.Locals, 1, 2)[:len(f.Locals)]
	}
	c.Funcs = append(c.Funcs, api.Entry{Start: 77, Locals: []int{1}}, api.Entry{Start: 78})[:len(c.Funcs)]
	c.Body = append(c.Body, instr("Return"), api.Instr{A: 78})[:len(c.Body)]
	return c
}

// whole is a copy of a code with all that stands in its lists' spare room.
func whole(c api.Code) api.Code {
	c.Places, c.Chans, c.Body = c.Places[:cap(c.Places)], c.Chans[:cap(c.Chans)], c.Body[:cap(c.Body)]
	c.Funcs = slices.Clone(c.Funcs[:cap(c.Funcs)])
	for i, f := range c.Funcs {
		c.Funcs[i].Locals = f.Locals[:cap(f.Locals)]
	}
	return apart(c)
}

// kept is codes, right ones and others.
func kept() []api.Code {
	return []api.Code{
		rich(), one("Turn, Jump 0"), one("Return"), one("Turn"), one("Int 1, Return"), one("Local 0, Fail"), {},
		pile(64, "Int 1", "Fail"), pile(65, "Int 1", "Fail"),
		with(rich(), func(c *api.Code) { c.Main = 0 }),
		with(rich(), func(c *api.Code) { c.Body[2] = instr("Int 1") }),
		with(rich(), func(c *api.Code) { c.Body[29] = instr("Turn") }),
	}
}

func TestCodesAreNotChanged(t *testing.T) {
	for _, c := range kept() {
		c := roomy(c)
		before := whole(c)
		checkModel(t, c)
		if !same(whole(c), before) {
			t.Errorf("the code is %v now, and was %v", whole(c), before)
		}
	}
}

// TestRandomCodesAreNotChanged, of many that are right and that aren't.
func TestRandomCodesAreNotChanged(t *testing.T) {
	r := rand.New(rand.NewSource(161))
	for range many(1000) {
		c := roomy(changed(r, randomCode(r)))
		before := whole(c)
		checkModel(t, c)
		if !same(whole(c), before) {
			t.Fatalf("the code is %v now, and was %v", whole(c), before)
		}
	}
}

// stacks is what Stacks answers of a code that is right.
func stacks(t *testing.T, c api.Code) [][]int {
	t.Helper()
	list, err := proofread.Stacks(c)
	if err != nil {
		t.Fatalf("Stacks = %v of %s", err, told(c))
	}
	return list
}

// texts is stacks as texts.
func texts(list [][]int) []string {
	var out []string
	for _, s := range list {
		out = append(out, lettered(s))
	}
	return out
}

// TestStacksShareNothing: setting one list of an answer, spare room included, leaves all others, those of another answer, and the code.
func TestStacksShareNothing(t *testing.T) {
	for _, c := range []api.Code{rich(), pile(64, "Int 1", "Turn, Jump 64"), pile(5, "Float 1", "Bool 1, Turn, Bool 0, JumpIf 6 0, Turn, Jump 9")} {
		before := apart(c)
		want := texts(stacks(t, c))
		other := stacks(t, c)
		for i := range want {
			list := stacks(t, c)
			for j := range list[i][:cap(list[i])] {
				list[i][:cap(list[i])][j] = -5
			}
			list[i] = types(want[i])
			if !slices.Equal(texts(list), want) {
				t.Errorf("the stack at %d is another one's: %v", i, list)
			}
		}
		if !slices.Equal(texts(other), want) || !same(c, before) {
			t.Error("an answer's lists are another one's, or the code's")
		}
	}
}

// TestStacksAreNotTheCodes: what is done to the code later isn't seen in an answer.
func TestStacksAreNotTheCodes(t *testing.T) {
	c := roomy(rich())
	list := stacks(t, c)
	want := texts(list)
	for i := range c.Funcs {
		clear(c.Funcs[i].Locals[:cap(c.Funcs[i].Locals)])
	}
	clear(c.Places[:cap(c.Places)])
	clear(c.Chans[:cap(c.Chans)])
	clear(c.Funcs)
	clear(c.Body)
	if !slices.Equal(texts(list), want) {
		t.Error("an answer's lists are the code's")
	}
}

// TestNothingIsKept: what was asked before changes no answer.
func TestNothingIsKept(t *testing.T) {
	for range 3 {
		for _, c := range kept() {
			checkModel(t, c)
		}
	}
}

// TestNilAndEmptyLists mean the same.
func TestNilAndEmptyLists(t *testing.T) {
	c := api.Code{Places: []int{}, Chans: []api.Chan{}, Funcs: []api.Entry{{Locals: []int{}}}, Body: []api.Instr{instr("Return")}}
	checkRight(t, c, []string{""})
	checkWrong(t, with(c, func(c *api.Code) { c.Body[0] = instr("Local 0") }))
}
