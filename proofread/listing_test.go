package proofread_test

import (
	"fmt"
	"reflect"
	"slices"
	"strconv"
	"strings"
	"testing"

	"stockade/api"
	"stockade/code"
	"stockade/proofread"
)

// opNames is the Ops by the table of chapter 14, the first of which is 1: the tests don't hang on how the package counts them.
var opNames = strings.Fields("Int Float Bool Local SetLocal Read Write ReadElem WriteElem Unary Binary Jump JumpIf Short Lock Unlock Send Recv Get Put Add Go Call Turn Return Fail")

// letters is the types' letters: a stack is written as a text of them, the top one last.
const letters = "?ifb"

// types is the types of a text.
func types(text string) []int {
	var list []int
	for _, letter := range text {
		list = append(list, strings.IndexRune(letters, letter))
	}
	return list
}

// lettered is the text of types.
func lettered(list []int) string {
	var b strings.Builder
	for _, t := range list {
		b.WriteByte(letters[t])
	}
	return b.String()
}

// instr is an instruction of a text, as "Int 1", "JumpIf 4 0" or "Return": the Op's name, A and B (a Float's Bits), as far as it has them.
func instr(text string) api.Instr {
	words := strings.Fields(text)
	in := api.Instr{Op: slices.Index(opNames, words[0]) + 1}
	var err error
	number := func(word string) int {
		n, wrong := strconv.Atoi(word)
		if wrong != nil {
			err = wrong
		}
		return n
	}
	want := 2
	switch words[0] {
	case "Turn", "Return", "Fail":
		want = 1
	case "ReadElem", "WriteElem", "JumpIf", "Short":
		want = 3
		in.A, in.B = number(words[1]), number(words[2])
	case "Float":
		in.Bits, err = strconv.ParseUint(words[1], 16, 64)
	default:
		in.A = number(words[1])
	}
	if in.Op == 0 || len(words) != want || err != nil {
		panic(text + " can't be read")
	}
	return in
}

// listed is the instructions of a listing, as "Int 1, Fail [i]": in brackets, if there are any, the stack at the instruction.
func listed(listing string) (body []api.Instr, stacks []string) {
	for _, text := range strings.Split(listing, ", ") {
		text, stack, _ := strings.Cut(text, " [")
		body = append(body, instr(text))
		stacks = append(stacks, strings.TrimSuffix(stack, "]"))
	}
	return body, stacks
}

// told is a code by its functions and instructions, of a great one the beginning.
func told(c api.Code) string {
	var b strings.Builder
	fmt.Fprintf(&b, "%d places, %d channels, functions %v, Main %d:", len(c.Places), len(c.Chans), c.Funcs, c.Main)
	for i, in := range c.Body[:min(len(c.Body), 100)] {
		name := fmt.Sprint("Op ", in.Op)
		if in.Op >= 1 && in.Op <= len(opNames) {
			name = opNames[in.Op-1]
		}
		fmt.Fprintf(&b, "\n\t%d: %s %d %d", i, name, in.A, in.B)
	}
	return b.String()
}

// others is the functions that stand around main, by their parameters and further locals.
var others = []api.Entry{
	{},
	{Params: 1, Locals: types("i")},
	{Params: 1, Locals: types("f")},
	{Params: 1, Locals: types("bfi")},
	{Params: 3, Locals: types("ifb")},
	{Params: 4, Locals: types("bbifffff")},
}

// aheads is how many of the others stand ahead of main in the codes of around.
var aheads = []int{0, 3, 6}

// around is a code whose Main is a body, with an int, a float and a bool as locals, and so many of the others ahead of it, each of a Turn and a Return. In the body the function 0 is main, and the others are 1 to 6; its jumps are as if its first instruction were 0. There are two places of each type, a channel of each one, two mutexes and two atomics.
func around(body []api.Instr, ahead int) api.Code {
	c := api.Code{
		Places:  types("iiffbb"),
		Mutexes: 2,
		Atomics: 2,
		Chans:   []api.Chan{{Type: api.TInt}, {Type: api.TFloat, Room: 1}, {Type: api.TBool, Room: api.MaxRoom}},
		Main:    ahead,
	}
	add := func(f api.Entry, list ...api.Instr) {
		f.Start, f.Locals = len(c.Body), slices.Clone(f.Locals)
		c.Funcs, c.Body = append(c.Funcs, f), append(c.Body, list...)
	}
	for i, f := range others {
		if i == ahead {
			add(api.Entry{Locals: types("ifb")}, moved(body, ahead)...)
		}
		add(f, instr("Turn"), instr("Return"))
	}
	if ahead == len(others) {
		add(api.Entry{Locals: types("ifb")}, moved(body, ahead)...)
	}
	return c
}

// moved is a body whose jumps and functions are as they have to be in around.
func moved(body []api.Instr, ahead int) []api.Instr {
	body = slices.Clone(body)
	for i, in := range body {
		switch opNames[in.Op-1] {
		case "Jump", "JumpIf", "Short":
			body[i].A += 2 * ahead
		case "Go", "Call":
			if in.A == 0 {
				body[i].A = ahead
			} else if in.A <= ahead {
				body[i].A--
			}
		}
	}
	return body
}

// checkRight asks that a code is right, what stack is at each instruction, and that the model says the same.
func checkRight(t *testing.T, c api.Code, want []string) {
	t.Helper()
	if err := proofread.Check(c); err != nil {
		t.Errorf("Check = %v of %s", err, told(c))
		return
	}
	stacks, err := proofread.Stacks(c)
	if err != nil || len(stacks) != len(c.Body) || len(want) != len(c.Body) {
		t.Errorf("Stacks = %d lists, %v, want %d, of %s", len(stacks), err, len(want), told(c))
		return
	}
	most := 0
	for i, s := range stacks {
		if lettered(s) != want[i] {
			t.Errorf("at %d there is the stack %q, want %q, of %s", i, lettered(s), want[i], told(c))
			return
		}
		most = max(most, len(want[i]))
	}
	if n, err := proofread.Deep(c); n != most || err != nil {
		t.Errorf("Deep = %d, %v, want %d, of %s", n, err, most, told(c))
	}
	if model, ok := modelStacks(c); !ok || !slices.Equal(model, want) {
		t.Errorf("the model says %q, %v of %s", model, ok, told(c))
	}
}

// checkWrong asks that a code isn't right, with nothing beside the error, and that the model says the same.
func checkWrong(t *testing.T, c api.Code) {
	t.Helper()
	if err := proofread.Check(c); err != api.ErrCode {
		t.Errorf("Check = %v of %s", err, told(c))
	}
	if stacks, err := proofread.Stacks(c); len(stacks) != 0 || err != api.ErrCode {
		t.Errorf("Stacks = %v, %v of %s", stacks, err, told(c))
	}
	if n, err := proofread.Deep(c); n != 0 || err != api.ErrCode {
		t.Errorf("Deep = %d, %v of %s", n, err, told(c))
	}
	if _, ok := modelStacks(c); ok {
		t.Errorf("the model takes %s", told(c))
	}
}

// checkModel asks for what the model says of a code, and answers whether it is right.
func checkModel(t *testing.T, c api.Code) bool {
	t.Helper()
	want, ok := modelStacks(c)
	if ok {
		checkRight(t, c, want)
	} else {
		checkWrong(t, c)
	}
	return ok
}

// right asks that a listing is right, whatever stands ahead of it and behind, and that its stacks are those in brackets. (All stacks of the others are empty.)
func right(t *testing.T, listing string) {
	t.Helper()
	body, stacks := listed(listing)
	for _, ahead := range aheads {
		none := make([]string, 2*len(others))
		checkRight(t, around(body, ahead), slices.Insert(none, 2*ahead, stacks...))
	}
}

// wrong asks that a listing isn't right, though it is in form, whatever stands ahead of it and behind.
func wrong(t *testing.T, listing string) {
	t.Helper()
	body, _ := listed(listing)
	for _, ahead := range aheads {
		c := around(body, ahead)
		if err := code.Check(c); err != nil {
			t.Errorf("%s isn't in form", told(c))
		}
		checkWrong(t, c)
	}
}

// one is a code of one function with a body and nothing else.
func one(listing string) api.Code {
	body, _ := listed(listing)
	return api.Code{Funcs: []api.Entry{{}}, Body: body}
}

// apart is a copy of a code that shares nothing with it.
func apart(c api.Code) api.Code {
	c.Places, c.Chans, c.Funcs, c.Body = slices.Clone(c.Places), slices.Clone(c.Chans), slices.Clone(c.Funcs), slices.Clone(c.Body)
	for i := range c.Funcs {
		c.Funcs[i].Locals = slices.Clone(c.Funcs[i].Locals)
	}
	return c
}

// with is a copy of a code with a change.
func with(c api.Code, change func(c *api.Code)) api.Code {
	c = apart(c)
	change(&c)
	return c
}

// same tells whether two codes are the same: deeply, once no list of theirs is nil.
func same(a, b api.Code) bool {
	return reflect.DeepEqual(unnil(a), unnil(b))
}

func unnil(c api.Code) api.Code {
	c.Places, c.Chans, c.Body = append([]int{}, c.Places...), append([]api.Chan{}, c.Chans...), append([]api.Instr{}, c.Body...)
	c.Funcs = append([]api.Entry{}, c.Funcs...)
	for i, f := range c.Funcs {
		c.Funcs[i].Locals = append([]int{}, f.Locals...)
	}
	return c
}

// many is how often something is tried.
func many(n int) int {
	if testing.Short() {
		return n / 10
	}
	return n
}
