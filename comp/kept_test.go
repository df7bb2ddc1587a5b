package comp_test

import (
	"math"
	"math/rand"
	"reflect"
	"slices"
	"testing"

	"stockade/api"
	"stockade/comp"
)

// The tests of P15.1 on what is handed in and what is answered: nothing is changed, kept or shared.

// roomy is a copy of a program whose lists have spare room, with something in it.
func roomy(p api.Program) api.Program {
	p = apart(p)
	p.Places, p.Chans, p.Funcs = roomFor(p.Places, 77), roomFor(p.Chans, api.Chan{Type: 77}), roomFor(p.Funcs, api.Func{Params: 77})
	for i := range p.Funcs {
		p.Funcs[i].Locals = roomFor(p.Funcs[i].Locals, 77)
	}
	for _, n := range nodesOf(p) {
		n.Kids = roomFor(n.Kids, api.Node{Kind: 77})
	}
	return p
}

func roomFor[T any](list []T, behind T) []T {
	return append(slices.Clone(list), behind, behind)[:len(list)]
}

// whole is a copy of a program with all that stands in its lists' spare room.
func whole(p api.Program) api.Program {
	p.Places, p.Chans = slices.Clone(p.Places[:cap(p.Places)]), slices.Clone(p.Chans[:cap(p.Chans)])
	p.Funcs = slices.Clone(p.Funcs[:cap(p.Funcs)])
	for i, f := range p.Funcs {
		p.Funcs[i].Locals, p.Funcs[i].Block = slices.Clone(f.Locals[:cap(f.Locals)]), wholeNode(f.Block)
	}
	return p
}

func wholeNode(n api.Node) api.Node {
	n.Kids = slices.Clone(n.Kids[:cap(n.Kids)])
	for i, kid := range n.Kids {
		n.Kids[i] = wholeNode(kid)
	}
	return n
}

// spoil changes everything that a program's lists hold.
func spoil(p api.Program) {
	list := nodesOf(p)
	for i := range p.Funcs {
		clear(p.Funcs[i].Locals)
		p.Funcs[i] = api.Func{}
	}
	for _, n := range list {
		*n = api.Node{Kind: api.KFail, Kids: []api.Node{number(99)}}
	}
	clear(p.Places)
	clear(p.Chans)
}

// scribble sets all that a code's lists hold, their spare room too.
func scribble(c api.Code) {
	set(c.Places, -5)
	set(c.Chans, api.Chan{Type: -5, Room: -5})
	for _, f := range c.Funcs {
		set(f.Locals, -5)
	}
	set(c.Funcs, api.Entry{Start: -5, Params: -5})
	set(c.Body, api.Instr{Op: -5, A: -5, B: -5, Bits: math.MaxUint64, At: -5})
}

func set[T any](list []T, to T) {
	for i := range list[:cap(list)] {
		list[:cap(list)][i] = to
	}
}

// compiled is a program's code, of one that is known to have one.
func compiled(t *testing.T, p api.Program) api.Code {
	t.Helper()
	c, err := comp.Compile(p)
	if err != nil {
		t.Fatalf("Compile(%s): %v", shown(p), err)
	}
	return c
}

// untypedLocal is a program with a local that Compile has to give a type in the code alone.
func untypedLocal() api.Program {
	return api.Program{Places: []int{1}, Chans: []api.Chan{{Type: 1}}, Funcs: []api.Func{{Locals: []int{0}, Block: block()}, {Params: 1, Locals: []int{1, 0}, Block: block()}}}
}

// TestProgramsAreNotChanged, their lists' spare room included, be they taken or refused; nor does a code change when its program does later.
func TestProgramsAreNotChanged(t *testing.T) {
	r := rand.New(rand.NewSource(155))
	list := []api.Program{program(t, rich), untypedLocal()}
	for range many(300) {
		_, p := randomProgram(t, r)
		list = append(list, p)
	}
	for _, p := range list {
		q := roomy(p)
		before := whole(q)
		c := compiled(t, q)
		if !reflect.DeepEqual(whole(q), before) {
			t.Fatalf("%s is changed", shown(p))
		}
		spoil(q)
		if !same(c, modelCode(p)) {
			t.Fatalf("the code of %s has a list of the program", shown(p))
		}
	}
	large := api.Program{Funcs: []api.Func{{Locals: []int{0}, Block: block(slices.Repeat([]api.Node{node(api.KReturn)}, api.MaxCode)...)}}}
	for _, p := range []api.Program{{}, {Main: 1, Funcs: []api.Func{{}}}, large} {
		q := roomy(p)
		before := whole(q)
		if _, err := comp.Compile(q); err == nil || !reflect.DeepEqual(whole(q), before) {
			t.Fatalf("%s is changed: %v", shown(p), err)
		}
	}
}

// TestCodesShareNothing: what is done to a code's lists, spare room included, isn't seen in the program, or in another code of it.
func TestCodesShareNothing(t *testing.T) {
	r := rand.New(rand.NewSource(156))
	for _, p := range []api.Program{program(t, rich), untypedLocal(), roomy(program(t, rich)), roomy(untypedLocal())} {
		before := whole(p)
		first, second := compiled(t, p), compiled(t, p)
		scribble(first)
		if !reflect.DeepEqual(whole(p), before) || !same(second, modelCode(p)) || !same(compiled(t, p), second) {
			t.Fatalf("a code of %s shares a list", shown(p))
		}
	}
	for range many(300) {
		src, _ := randomProgram(t, r)
		first, _ := comp.Build(src)
		second, _ := comp.Build(src)
		scribble(first)
		checkBuild(t, src)
		if !same(second, modelCode(program(t, src))) {
			t.Fatalf("two codes of %s share a list", src)
		}
	}
}

// TestListsShareNothing: setting one list of a code, spare room included, leaves all others.
func TestListsShareNothing(t *testing.T) {
	src := "var x int; var y float; chan c[1] int; func f(p int) { v := p; } func g(p bool) { } func main() { w := 1; }"
	want := modelCode(program(t, src))
	for i := range want.Funcs {
		c, _ := comp.Build(src)
		set(c.Funcs[i].Locals, -5)
		c.Funcs[i].Locals = want.Funcs[i].Locals
		if !same(c, want) {
			t.Errorf("the locals of %d are another list's: %+v", i, c)
		}
	}
	c, _ := comp.Build(src)
	set(c.Places, -5)
	c.Places = want.Places
	if !same(c, want) {
		t.Errorf("the places are another list's: %+v", c)
	}
}

// TestNothingIsKept: what was asked before changes no answer.
func TestNothingIsKept(t *testing.T) {
	for range 3 {
		checkBuild(t, rich)
		checkRefused(t, api.Program{})
		checkBad(t, "var$a ", api.ErrText)
		checkCompile(t, untypedLocal())
		checkBuild(t, "func main() { }")
	}
}
