package comp_test

import (
	"math"
	"slices"
	"testing"

	"stockade/api"
	"stockade/comp"
	"stockade/kind"
)

// The tests of P15.1 on programs that are made by hand, so that they have what no text makes: nodes that stand anywhere, locals without a type, and more instructions than there may be.

func node(kind int, kids ...api.Node) api.Node {
	return api.Node{Kind: kind, Kids: kids}
}

func block(stmts ...api.Node) api.Node {
	return node(api.KBlock, stmts...)
}

func number(n int) api.Node {
	return api.Node{Kind: api.KInt, N: n}
}

func truth(n int) api.Node {
	return api.Node{Kind: api.KBool, N: n}
}

func local(n int) api.Node {
	return api.Node{Kind: api.KLocal, N: n}
}

func place(n int) api.Node {
	return api.Node{Kind: api.KPlace, N: n}
}

func elem(first, size int, kid api.Node) api.Node {
	return api.Node{Kind: api.KElem, N: first, Size: size, Kids: []api.Node{kid}}
}

func op(name string, kids ...api.Node) api.Node {
	return api.Node{Kind: api.KUnary + len(kids) - 1, Name: name, Kids: kids}
}

func let(n int, kid api.Node) api.Node {
	return api.Node{Kind: api.KLet, N: n, Kids: []api.Node{kid}}
}

// of is a statement of an object.
func of(kind, obj int, kids ...api.Node) api.Node {
	return api.Node{Kind: kind, Obj: obj, Kids: kids}
}

// at is a node that stands at a byte.
func at(byte int, n api.Node) api.Node {
	n.At = byte
	return n
}

func typed(t *testing.T, p api.Program) api.Program {
	t.Helper()
	q, bad := kind.Check(p)
	if bad.Err != nil {
		t.Fatalf("%s: %v", shown(p), bad)
	}
	return q
}

// checkBody asks for a program's instructions; places, locals and objects enough are given to what main does. Its block stands at byte 1.
func checkBody(t *testing.T, want []api.Instr, stmts ...api.Node) {
	t.Helper()
	p := api.Program{Places: []int{1, 1, 1, 1, 2, 3}, Mutexes: 4, Atomics: 4, Chans: slices.Repeat([]api.Chan{{Type: 1}}, 4)}
	p.Funcs = []api.Func{{Locals: []int{0}, Block: at(1, block(stmts...))}, {Params: 2, Locals: []int{1, 1}, Block: at(2, block())}}
	c := checkCompile(t, typed(t, p))
	want = append(slices.Clone(want), api.Instr{Op: 25, At: 1}, api.Instr{Op: 25, At: 2})
	if !slices.Equal(c.Body, want) {
		t.Errorf("%s\n got%s\nwant%s", shown(stmts), told(c.Body), told(want))
	}
}

// TestPlacesInTheText: each instruction stands where its node says, whatever that is: a store where the target does, a jump where the KIf or KWhile does, no matter where kids and blocks stand.
func TestPlacesInTheText(t *testing.T) {
	a, b, c := at(11, number(5)), at(12, place(1)), at(13, place(2))
	yes := at(14, truth(1))
	kid, own := api.Instr{Op: 6, A: 1, At: 12}, 9
	checkBody(t, []api.Instr{kid, {Op: 7, A: 3, At: 10}}, at(own, node(api.KSet, at(10, place(3)), b)))
	checkBody(t, []api.Instr{kid, {Op: 5, A: 0, At: 9}, kid, {Op: 5, A: 0, At: 10}}, at(own, let(0, b)), at(own, node(api.KSet, at(10, local(0)), b)))
	checkBody(t, []api.Instr{{Op: 6, A: 2, At: 13}, kid, {Op: 9, A: 1, B: 3, At: 10}}, at(own, node(api.KSet, at(10, elem(1, 3, c)), b)))
	checkBody(t, []api.Instr{kid, {Op: 6, A: 2, At: 13}, {Op: 11, A: 3, At: 10}, {Op: 26, At: 9}}, at(own, node(api.KFail, at(10, op("*", b, c)))))
	checkBody(t, []api.Instr{kid, {Op: 10, A: 1, At: 10}, {Op: 26, At: 9}}, at(own, node(api.KFail, at(10, op("-", b)))))
	checkBody(t, []api.Instr{kid, {Op: 8, A: 0, B: 4, At: 10}, {Op: 26, At: 9}}, at(own, node(api.KFail, at(10, elem(0, 4, b)))))
	checkBody(t, []api.Instr{{Op: 1, A: 5, At: 11}, kid, {Op: 23, A: 1, At: 9}}, at(own, of(api.KCall, 1, a, b)))
	checkBody(t, []api.Instr{{Op: 1, A: 5, At: 11}, kid, {Op: 22, A: 1, At: 9}}, at(own, of(api.KGo, 1, a, b)))
	checkBody(t, []api.Instr{{Op: 15, A: 3, At: 9}, {Op: 16, A: 2, At: 9}}, at(own, of(api.KLock, 3)), at(own, of(api.KUnlock, 2)))
	checkBody(t, []api.Instr{kid, {Op: 17, A: 3, At: 9}}, at(own, of(api.KSend, 3, b)))
	checkBody(t, []api.Instr{kid, {Op: 21, A: 3, At: 9}}, at(own, of(api.KAdd, 3, b)))
	checkBody(t, []api.Instr{kid, {Op: 20, A: 3, At: 9}}, at(own, of(api.KPut, 3, b)))
	checkBody(t, []api.Instr{{Op: 18, A: 3, At: 9}, {Op: 7, A: 1, At: 12}}, at(own, of(api.KRecv, 3, b)))
	checkBody(t, []api.Instr{{Op: 19, A: 3, At: 9}, {Op: 7, A: 1, At: 12}}, at(own, of(api.KGet, 3, b)))
	checkBody(t, []api.Instr{kid, {Op: 18, A: 3, At: 9}, {Op: 9, A: 2, B: 2, At: 10}}, at(own, of(api.KRecv, 3, at(10, elem(2, 2, b)))))
	checkBody(t, []api.Instr{kid, {Op: 19, A: 3, At: 9}, {Op: 9, A: 2, B: 2, At: 10}}, at(own, of(api.KGet, 3, at(10, elem(2, 2, b)))))
	checkBody(t, []api.Instr{{Op: 3, A: 1, At: 14}, {Op: 14, A: 3, B: 0, At: 10}, {Op: 3, A: 1, At: 14}, {Op: 13, A: 4, At: 9}}, at(own, node(api.KIf, at(10, op("&&", yes, yes)), at(8, block()))))
	checkBody(t, []api.Instr{{Op: 3, A: 1, At: 14}, {Op: 14, A: 3, B: 1, At: 10}, {Op: 3, A: 1, At: 14}, {Op: 13, A: 5, At: 9}, {Op: 12, A: 5, At: 9}}, at(own, node(api.KIf, at(10, op("||", yes, yes)), at(8, block()), at(7, block()))))
	checkBody(t, []api.Instr{{Op: 24, At: 9}, {Op: 3, A: 1, At: 14}, {Op: 13, A: 5, At: 9}, {Op: 25, At: 6}, {Op: 12, A: 0, At: 9}}, at(own, node(api.KWhile, yes, at(8, block(at(6, node(api.KReturn)))))))
	for _, byte := range []int{-1, math.MinInt, math.MaxInt, api.MaxText + 1} { // no code in form, but the program's
		checkBody(t, []api.Instr{{Op: 1, A: 0, At: byte}, {Op: 26, At: byte}}, at(byte, node(api.KFail, at(byte, number(0)))))
	}
}

// TestLocalsWithoutType: nothing types them, so they are ints.
func TestLocalsWithoutType(t *testing.T) {
	p := api.Program{Funcs: []api.Func{
		{Locals: []int{0, 0, 0}, Block: block(let(1, truth(1)))},
		{Params: 2, Locals: []int{api.TBool, api.TFloat, 0}, Block: block()},
		{Locals: []int{0}, Block: block()},
	}}
	p = typed(t, p)
	if !slices.Equal(p.Funcs[0].Locals, []int{0, api.TBool, 0}) {
		t.Fatal(p.Funcs[0])
	}
	c := checkCompile(t, p)
	want := api.Code{
		Funcs: []api.Entry{{Start: 0, Locals: []int{api.TInt, api.TBool, api.TInt}}, {Start: 3, Params: 2, Locals: []int{api.TBool, api.TFloat, api.TInt}}, {Start: 4, Locals: []int{api.TInt}}},
		Body:  []api.Instr{{Op: 3, A: 1}, {Op: 5, A: 1}, {Op: 25}, {Op: 25}, {Op: 25}},
	}
	if !same(c, want) {
		t.Errorf("Compile = %+v, want %+v", c, want)
	}
	if p.Funcs[0].Locals[0] != 0 || p.Funcs[1].Locals[2] != 0 || p.Funcs[2].Locals[0] != 0 {
		t.Error("the program's locals are typed now")
	}
}

// checkLarge asks that a program is refused for its instructions, and that nothing else is answered.
func checkLarge(t *testing.T, p api.Program) {
	t.Helper()
	if n := len(modelCode(p).Body); n <= api.MaxCode {
		t.Fatal(n)
	}
	if c, err := comp.Compile(p); !same(c, api.Code{}) || err != api.ErrLarge {
		t.Errorf("Compile of %d instructions = %s, %v", len(modelCode(p).Body), shown(c), err)
	}
}

// TestMaxCode: as many instructions as there may be, and one more, of one kind of statement and another.
func TestMaxCode(t *testing.T) {
	fill := func(many int, n api.Node) []api.Node { return slices.Repeat([]api.Node{n}, many) }
	ret := node(api.KReturn)
	loop := node(api.KWhile, truth(1), block())                             // 4 instructions
	either := node(api.KIf, op("&&", truth(1), truth(0)), block(), block()) // 5
	for name, x := range map[string]struct {
		filled []api.Node // of MaxCode - 1 instructions: the Return at the end is one more
	}{
		"returns": {fill(api.MaxCode-1, ret)},
		"loops":   {slices.Concat(fill(2047, loop), fill(3, ret))},
		"ifs":     {slices.Concat(fill(1638, either), fill(1, ret))},
		"locks":   {fill(api.MaxCode-1, of(api.KLock, 0))},
		"sets":    {slices.Concat(fill(2730, node(api.KSet, place(0), op("-", place(0)))), fill(1, ret))},
	} {
		p := api.Program{Places: []int{1}, Mutexes: 1, Funcs: []api.Func{{Block: block(x.filled...)}}}
		if c := checkCompile(t, typed(t, p)); len(c.Body) != api.MaxCode {
			t.Errorf("%s: %d instructions", name, len(c.Body))
		}
		for _, more := range []int{1, 2, 3, 1000} {
			p.Funcs[0].Block = block(slices.Concat(x.filled, fill(more, ret))...)
			checkLarge(t, typed(t, p))
		}
		p.Funcs[0].Block = block(slices.Concat([]api.Node{ret}, x.filled)...)
		checkLarge(t, typed(t, p))
		p.Funcs[0].Block = block(x.filled...)
		p.Funcs = append(p.Funcs, api.Func{Block: block()}) // its Return is the one too many
		checkLarge(t, typed(t, p))
	}
}

// TestMaxCodeOfAll: the instructions of all functions count, and the Returns at their ends.
func TestMaxCodeOfAll(t *testing.T) {
	var p api.Program
	for range api.MaxFuncs {
		p.Funcs = append(p.Funcs, api.Func{Block: block(slices.Repeat([]api.Node{node(api.KReturn)}, api.MaxCode/api.MaxFuncs-1)...)})
	}
	p.Main = 7
	if c := checkCompile(t, typed(t, p)); len(c.Body) != api.MaxCode || c.Funcs[15].Start != 15*512 || c.Main != 7 {
		t.Error(len(c.Body), c.Funcs, c.Main)
	}
	for i := range p.Funcs {
		q := p
		q.Funcs = slices.Clone(p.Funcs)
		q.Funcs[i].Block = block(append(slices.Clone(p.Funcs[i].Block.Kids), node(api.KReturn))...)
		checkLarge(t, typed(t, q))
	}
}

// TestNotTypedAndLarge: ErrCode is asked first.
func TestNotTypedAndLarge(t *testing.T) {
	p := api.Program{Funcs: []api.Func{{Block: block(slices.Repeat([]api.Node{node(api.KReturn)}, api.MaxCode)...)}}}
	checkLarge(t, p)
	p.Funcs[0].Block.Kids = append(p.Funcs[0].Block.Kids, node(api.KFail, truth(1)))
	checkRefused(t, p)
}

// TestGreatPrograms: as great, and as deep, as the rules promise.
func TestGreatPrograms(t *testing.T) {
	main := func(stmts ...api.Node) api.Program {
		return typed(t, api.Program{Places: []int{1, 1, 1, 1, 3}, Funcs: []api.Func{{Locals: []int{0}, Block: block(stmts...)}}})
	}
	nest := func(n api.Node, many int, in func(n api.Node) api.Node) api.Node {
		for range many {
			n = in(n)
		}
		return n
	}
	fail := func(n api.Node) api.Node { return node(api.KFail, n) }
	for _, x := range []struct {
		p    api.Program
		want int
	}{
		{main(fail(nest(number(1), 990, func(n api.Node) api.Node { return op("-", n) }))), 993},
		{main(fail(nest(number(1), 990, func(n api.Node) api.Node { return op("+", n, number(1)) }))), 1983},
		{main(fail(nest(number(1), 990, func(n api.Node) api.Node { return op("+", number(1), n) }))), 1983},
		{main(fail(nest(number(1), 990, func(n api.Node) api.Node { return elem(0, 4, n) }))), 993},
		{main(node(api.KSet, place(4), nest(place(4), 990, func(n api.Node) api.Node { return op("&&", n, truth(1)) }))), 1983},
		{main(node(api.KSet, place(4), nest(place(4), 990, func(n api.Node) api.Node { return op("||", truth(1), n) }))), 1983},
		{main(nest(fail(number(3)), 490, func(n api.Node) api.Node { return node(api.KIf, truth(1), block(n)) })), 983},
		{main(nest(fail(number(3)), 490, func(n api.Node) api.Node { return node(api.KIf, truth(1), block(), block(n)) })), 1473},
		{main(nest(fail(number(3)), 490, func(n api.Node) api.Node { return node(api.KWhile, truth(1), block(n)) })), 1963},
	} {
		if c := checkCompile(t, x.p); len(c.Body) != x.want {
			t.Errorf("%d instructions, want %d", len(c.Body), x.want)
		}
	}
	checkLarge(t, main(slices.Repeat([]api.Node{node(api.KWhile, truth(1), block())}, 3333)...)) // 10000 nodes, 13333 instructions
}
