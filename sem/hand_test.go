package sem_test

import (
	"fmt"
	"math"
	"math/rand"
	"slices"
	"strings"
	"testing"

	"stockade/api"
	"stockade/kind"
	"stockade/sem"
)

// The tests of P13.1 on programs that are made by hand, so that they have what no text makes.

func node(kind int, kids ...api.Node) api.Node {
	return api.Node{Kind: kind, Kids: kids}
}

func block(stmts ...api.Node) api.Node {
	return node(api.KBlock, stmts...)
}

func number(n int) api.Node {
	return api.Node{Kind: api.KInt, N: n}
}

func local(n int) api.Node {
	return api.Node{Kind: api.KLocal, N: n}
}

func place(n int) api.Node {
	return api.Node{Kind: api.KPlace, N: n}
}

func elem(first, size int, kid api.Node) api.Node {
	return api.Node{Kind: api.KElem, N: first, Size: size, Kids: []api.Node{kid}}
}

func op(name string, kids ...api.Node) api.Node {
	return api.Node{Kind: api.KUnary + len(kids) - 1, Name: name, Kids: kids}
}

func let(n int, kid api.Node) api.Node {
	return api.Node{Kind: api.KLet, N: n, Kids: []api.Node{kid}}
}

func call(fn int, args ...api.Node) api.Node {
	return api.Node{Kind: api.KCall, Obj: fn, Kids: args}
}

// at is a node that stands at a byte.
func at(byte int, n api.Node) api.Node {
	n.At = byte
	return n
}

func typed(t *testing.T, p api.Program) api.Program {
	t.Helper()
	q, bad := kind.Check(p)
	if bad.Err != nil {
		t.Fatalf("%v: %v", p, bad)
	}
	return q
}

// nodesOf is all nodes of a program.
func nodesOf(p api.Program) []*api.Node {
	var list []*api.Node
	var walk func(n *api.Node)
	walk = func(n *api.Node) {
		list = append(list, n)
		for i := range n.Kids {
			walk(&n.Kids[i])
		}
	}
	for i := range p.Funcs {
		walk(&p.Funcs[i].Block)
	}
	return list
}

// apart is a copy of a program that shares nothing with it.
func apart(p api.Program) api.Program {
	p.Places, p.Chans, p.Funcs = slices.Clone(p.Places), slices.Clone(p.Chans), slices.Clone(p.Funcs)
	for i := range p.Funcs {
		p.Funcs[i].Locals = slices.Clone(p.Funcs[i].Locals)
		p.Funcs[i].Block = deep(p.Funcs[i].Block)
	}
	return p
}

func deep(n api.Node) api.Node {
	n.Kids = slices.Clone(n.Kids)
	for i, kid := range n.Kids {
		n.Kids[i] = deep(kid)
	}
	return n
}

// checkDoes plays a program that is made by hand.
func checkDoes(t *testing.T, p api.Program, want string) {
	t.Helper()
	p = typed(t, p)
	events, end, err := sem.Play(p, nil, 300)
	m := marked{}
	if got := strings.ReplaceAll(m.tell(events, end), "byte ", ""); got != want || err != nil {
		t.Errorf("%v\n got %s %v\nwant %s", p, got, err, want)
	}
	checkPlay(t, p, nil, 300)
}

// TestZeros: a local that isn't a parameter is its type's zero at first, in each call; a KLet that isn't come to sets nothing.
func TestZeros(t *testing.T) {
	yes := api.Node{Kind: api.KBool, N: 1}
	values := []api.Node{{}, number(7), {Kind: api.KFloat, Bits: 7}, yes}
	told := []api.Node{{}, local(1), op("int", local(1)), number(0)}
	for typ := api.TInt; typ <= api.TBool; typ++ {
		// Function 0 sets its local 1, if its parameter is true, and fails by it, if it is false.
		f := block(node(api.KIf, local(0), block(let(1, values[typ]), node(api.KReturn))), at(8, node(api.KFail, told[typ])))
		if typ == api.TBool {
			f.Kids = slices.Insert(f.Kids, 1, node(api.KIf, local(1), block(node(api.KFail, number(1)))))
		}
		p := api.Program{Funcs: []api.Func{{Params: 1, Locals: []int{api.TBool, 0}, Block: f}, {}}, Main: 1}
		no := api.Node{Kind: api.KBool}
		p.Funcs[1].Block = block(at(5, call(0, no)))
		checkDoes(t, p, "turn 5, FaultFail 0 8")
		p.Funcs[1].Block = block(at(5, call(0, yes)), at(6, call(0, yes)), at(7, call(0, no)))
		checkDoes(t, p, "turn 5, turn 6, turn 7, FaultFail 0 8")
		p.Funcs[1].Block = block(at(5, call(0, yes)), at(6, api.Node{Kind: api.KGo, Kids: []api.Node{yes}}), at(7, call(0, no)))
		checkDoes(t, p, "turn 5, go 1 6, turn 7, FaultFail 0 8")
	}
	// A local keeps what it has from one round to the next; another call's local of that number is another one.
	loop := node(api.KWhile, op("<", place(0), number(3)), block(node(api.KSet, place(0), op("+", place(0), number(1))), call(1), node(api.KIf, op(">", place(0), number(1)), block(node(api.KSet, local(0), op("+", local(0), number(5)))), block(let(0, number(4))))))
	p := api.Program{Places: []int{api.TInt}, Funcs: []api.Func{{Locals: []int{0}, Block: block(let(0, number(1)), loop, at(9, node(api.KFail, local(0))))}, {Locals: []int{0}, Block: block(let(0, number(99)))}}}
	p = typed(t, p)
	if _, end, _ := sem.Play(p, nil, 300); end != (api.End{Outcome: api.Faulted, Fault: api.FaultFail, N: 14, At: 9}) {
		t.Error(end)
	}
	checkPlay(t, p, nil, 300)
}

// TestPlacesInTheText: each event and fault stands where its node says, whatever that is; of an operator not where its kids stand.
func TestPlacesInTheText(t *testing.T) {
	vars := api.Program{Places: []int{1, 1, 1}, Mutexes: 1, Atomics: 1, Chans: []api.Chan{{Type: 1, Room: 1}}}
	one := func(n api.Node) api.Program {
		p := vars
		p.Funcs = []api.Func{{Locals: []int{0}, Block: at(-1, block(let(0, number(0)), n))}}
		return p
	}
	a, b, c, d := number(5), at(12, place(1)), at(13, place(2)), at(14, number(0))
	object := func(kind int, kids ...api.Node) api.Node { return at(9, node(kind, kids...)) }
	checkDoes(t, one(at(9, node(api.KSet, at(11, place(0)), at(10, op("-", b, c))))), "read 1 12, read 2 13, write 0 11, end -1, Finished")
	checkDoes(t, one(at(9, node(api.KFail, at(10, op("/", b, d))))), "read 1 12, FaultZero 10")
	checkDoes(t, one(at(9, node(api.KFail, at(10, op("%", a, d))))), "FaultZero 10")
	checkDoes(t, one(at(9, node(api.KFail, at(10, op("int", at(11, api.Node{Kind: api.KFloat, Bits: 0x7ff0000000000000})))))), "FaultConv 10")
	checkDoes(t, one(at(9, node(api.KFail, at(10, elem(0, 3, at(11, op("+", b, a))))))), "read 1 12, FaultIndex 10")
	checkDoes(t, one(at(9, node(api.KSet, at(10, elem(0, 3, a)), b))), "read 1 12, FaultIndex 10")
	checkDoes(t, one(at(9, node(api.KSet, at(10, elem(1, 2, b)), c))), "read 1 12, read 2 13, write 1 10, end -1, Finished")
	checkDoes(t, one(object(api.KPut, at(10, op("-", b)))), "read 1 12, put 0 9, end -1, Finished")
	checkDoes(t, one(object(api.KAdd, b)), "read 1 12, add 0 9, end -1, Finished")
	checkDoes(t, one(object(api.KGet, b)), "get 0 9, write 1 12, end -1, Finished")
	checkDoes(t, one(object(api.KGet, at(10, elem(0, 3, b)))), "read 1 12, get 0 9, write 0 10, end -1, Finished")
	checkDoes(t, one(object(api.KGet, at(10, elem(0, 3, a)))), "get 0 9, FaultIndex 10")
	checkDoes(t, one(object(api.KSend, b)), "read 1 12, send 0 9, end -1, Finished")
	checkDoes(t, one(object(api.KLock)), "lock 0 9, end -1, Finished")
	checkDoes(t, one(object(api.KUnlock)), "FaultUnlock 9")
	checkDoes(t, one(object(api.KCall)), strings.Repeat("turn 9, ", api.MaxCalls)+"FaultCalls 9")
	checkDoes(t, one(object(api.KGo)), "go 1 9, end -1, 1: go 2 9, 1: end -1, 2: go 3 9, 2: end -1, 3: go 4 9, 3: end -1, 4: go 5 9, 4: end -1, 5: go 6 9, 5: end -1, 6: go 7 9, 6: end -1, 7: FaultGo 9")
	checkDoes(t, one(object(api.KWhile, at(10, op("!=", b, c)), at(11, block()))), "turn 9, read 1 12, read 2 13, end -1, Finished")
	checkDoes(t, one(object(api.KIf, at(10, op("==", b, c)), at(11, block(at(math.MinInt, node(api.KFail, number(3))))))), fmt.Sprint("read 1 12, read 2 13, FaultFail 3 ", math.MinInt))
	checkDoes(t, one(object(api.KRecv, b)), "Deadlock")
}

// spread gives each node of a program a byte of its own.
func spread(r *rand.Rand, p api.Program) api.Program {
	p = apart(p)
	list := nodesOf(p)
	for i, byte := range r.Perm(2 * len(list))[:len(list)] {
		list[i].At = byte - 100
	}
	return p
}

// stirred is a typed program of which a node was changed so as no text could have it: a row of places cut otherwise, a local used ahead of its KLet. It is the program itself, if that wouldn't be typed.
func stirred(r *rand.Rand, p api.Program) api.Program {
	q := apart(p)
	f := &q.Funcs[r.Intn(len(q.Funcs))]
	list := nodesOf(api.Program{Funcs: []api.Func{*f}})
	switch n := list[r.Intn(len(list))]; n.Kind {
	case api.KLocal:
		n.N = r.Intn(len(f.Locals))
	case api.KLet:
		n.N = f.Params + r.Intn(len(f.Locals)-f.Params)
	case api.KElem:
		n.N, n.Size = r.Intn(len(q.Places)), 1+r.Intn(4)
	case api.KPlace:
		n.N = r.Intn(len(q.Places))
	}
	if s, bad := kind.Check(q); bad.Err == nil {
		return s
	}
	return p
}

func TestStirredPrograms(t *testing.T) {
	r := rand.New(rand.NewSource(133))
	changed := 0
	for range many(800) {
		_, p := randomProgram(t, r)
		q := spread(r, p)
		before := fmt.Sprint(q)
		for range 40 {
			q = stirred(r, q)
		}
		if fmt.Sprint(q) != before {
			changed++
		}
		checkPlay(t, q, randomPicks(r), r.Intn(200))
		checkSteps(t, q, r.Intn, 60)
	}
	if changed < many(600) {
		t.Errorf("only %d programs were changed", changed)
	}
}

// TestGreatPrograms: as great, and as deep, as the rules promise.
func TestGreatPrograms(t *testing.T) {
	main := func(stmts ...api.Node) api.Program {
		return api.Program{Places: []int{1, 1, 1, 1}, Funcs: []api.Func{{Locals: []int{0}, Block: block(stmts...)}}}
	}
	nest := func(n api.Node, many int, in func(n api.Node) api.Node) api.Node {
		for range many {
			n = in(n)
		}
		return n
	}
	fail := func(n api.Node) api.Node { return node(api.KFail, n) }
	plus := func(n api.Node) api.Node { return op("+", n, number(1)) }
	behind := func(n api.Node) api.Node { return op("+", number(1), n) }
	bush := func(n api.Node) api.Node { return op("+", nest(number(1), 9, plus), n) }
	checkDoes(t, main(fail(nest(number(1), 990, func(n api.Node) api.Node { return op("-", n) }))), "FaultFail 1 0")
	checkDoes(t, main(fail(nest(number(0), 990, plus))), "FaultFail 990 0")
	checkDoes(t, main(fail(nest(number(0), 990, behind))), "FaultFail 990 0")
	checkDoes(t, main(fail(nest(number(0), 480, bush))), "FaultFail 4800 0")
	checkDoes(t, main(fail(nest(number(0), 290, func(n api.Node) api.Node { return elem(0, 4, n) }))), strings.Repeat("read 0 0, ", 290)+"FaultFail 0 0")
	yes := api.Node{Kind: api.KBool, N: 1}
	inner := fail(number(3))
	checkDoes(t, main(nest(inner, 490, func(n api.Node) api.Node { return node(api.KIf, yes, block(n)) })), "FaultFail 3 0")
	checkDoes(t, main(nest(inner, 290, func(n api.Node) api.Node { return node(api.KWhile, yes, block(n)) })), strings.Repeat("turn 0, ", 290)+"FaultFail 3 0")
	// Function 0 calls itself as deep as may be; then each of these calls does thousands of statements that nobody sees.
	stmts := []api.Node{let(1, number(0)), node(api.KIf, op(">", local(0), number(0)), block(call(0, op("-", local(0), number(1)))))}
	for range 1980 {
		stmts = append(stmts, node(api.KSet, local(1), plus(local(1))))
	}
	stmts = append(stmts, node(api.KIf, op("!=", local(1), number(1980)), block(fail(local(1)))))
	p := api.Program{Funcs: []api.Func{{Params: 1, Locals: []int{1, 0}, Block: block(stmts...)}, {Block: block(call(0, number(api.MaxCalls-1)))}}, Main: 1}
	if count := len(nodesOf(p)); count < 9900 || count > 10000 {
		t.Fatal(count)
	}
	checkDoes(t, p, strings.Repeat("turn 0, ", api.MaxCalls)+"end 0, Finished")
}

// TestLongRun: a loop of as many events as there may be.
func TestLongRun(t *testing.T) {
	p := build(t, "var x int; func main() { v := 0; while true { v = v + 1; x = v; } }")
	events, end := checkPlay(t, p, nil, api.MaxFuel)
	if len(events) != api.MaxFuel || end != (api.End{Outcome: api.FuelOut}) {
		t.Error(len(events), end)
	}
}
