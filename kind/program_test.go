package kind_test

import (
	"fmt"
	"math"
	"reflect"
	"slices"
	"testing"

	"stockade/api"
	"stockade/kind"
	"stockade/scope"
)

// The tests of P9.1 and P9.2 on programs that are made by hand, so that they have what no text makes.

func local(n int) api.Node {
	return api.Node{Kind: api.KLocal, N: n}
}

func place(n int) api.Node {
	return api.Node{Kind: api.KPlace, N: n}
}

func elem(first, size int, kid api.Node) api.Node {
	return api.Node{Kind: api.KElem, N: first, Size: size, Kids: []api.Node{kid}}
}

func number(n int) api.Node {
	return api.Node{Kind: api.KInt, N: n}
}

func truth(n int) api.Node {
	return api.Node{Kind: api.KBool, N: n}
}

func float(bits uint64) api.Node {
	return api.Node{Kind: api.KFloat, Bits: bits}
}

func node(kind int, kids ...api.Node) api.Node {
	return api.Node{Kind: kind, Kids: kids}
}

func block(stmts ...api.Node) api.Node {
	return node(api.KBlock, stmts...)
}

func op(name string, kids ...api.Node) api.Node {
	return api.Node{Kind: api.KUnary + len(kids) - 1, Name: name, Kids: kids}
}

// does is a statement about an object.
func does(kind, obj int, kids ...api.Node) api.Node {
	return api.Node{Kind: kind, Obj: obj, Kids: kids}
}

func let(n int, kid api.Node) api.Node {
	return api.Node{Kind: api.KLet, N: n, Kids: []api.Node{kid}}
}

// at is a node that stands at a byte.
func at(byte int, n api.Node) api.Node {
	n.At = byte
	return n
}

// around is a program whose function 1 does so: it has 2 parameters, an int and a bool, and 6 locals. The places are 3 ints, 2 bools and a float; channel 0, 1 and 2 are of an int, a float and a bool.
func around(stmts ...api.Node) api.Program {
	return api.Program{
		Places: []int{1, 1, 1, 3, 3, 2}, Mutexes: 2, Atomics: 3,
		Chans: []api.Chan{{Type: 1, Room: 0}, {Type: 2, Room: 8}, {Type: 3, Room: 1}},
		Funcs: []api.Func{{Name: "f", Params: 2, Locals: []int{2, 3, 0}, Block: block()}, {Name: "g", Params: 2, Locals: []int{1, 3, 0, 0, 0, 0}, Block: block(stmts...)}, {Name: "main", Block: block()}},
		Main:  2,
	}
}

// typed is what Check answers, which is asked to be typed.
func typed(t *testing.T, p api.Program) api.Program {
	t.Helper()
	q, bad := kind.Check(p)
	if bad != (api.Bad{}) {
		t.Fatalf("Check(%s): %v", tell(p), bad)
	}
	wantTyped(t, q)
	return q
}

// wantLocals asks for the types of function 1's locals.
func wantLocals(t *testing.T, want []int, stmts ...api.Node) {
	t.Helper()
	if got := typed(t, around(stmts...)).Funcs[1].Locals; !slices.Equal(got, want) {
		t.Errorf("%s: %v, want %v", tell(stmts), got, want)
	}
}

// wantAt asks for an ErrType at a byte.
func wantAt(t *testing.T, byte int, stmts ...api.Node) {
	t.Helper()
	refused(t, around(stmts...), api.Bad{Err: api.ErrType, At: byte})
}

// TestLetAgain: a local that an earlier KLet has typed, with the same type and with another one, wherever the two stand.
func TestLetAgain(t *testing.T) {
	values := []api.Node{{}, number(7), float(7), truth(1)}
	for first := api.TInt; first <= api.TBool; first++ {
		for second := api.TInt; second <= api.TBool; second++ {
			for _, stmts := range [][]api.Node{
				{let(2, values[first]), at(9, let(2, values[second]))},
				{let(2, values[first]), let(3, values[second]), at(9, let(2, values[second]))},
				{node(api.KIf, truth(1), block(let(2, values[first])), block(at(9, let(2, values[second]))))},
				{node(api.KIf, truth(1), block(let(2, values[first]))), at(9, let(2, values[second]))},
				{node(api.KWhile, truth(1), block(let(2, values[first]), at(9, let(2, values[second]))))},
				{let(2, values[first]), node(api.KWhile, truth(1), block(at(9, let(2, values[second]))))},
				{let(2, values[first]), let(2, local(2)), at(9, let(2, values[second])), let(2, local(2))},
			} {
				if first != second {
					wantAt(t, 9, stmts...)
					continue
				}
				if got := typed(t, around(stmts...)).Funcs[1].Locals[2]; got != first {
					t.Errorf("%s: %d, want %d", tell(stmts), got, first)
				}
			}
		}
	}
	wantAt(t, 5, let(2, number(1)), at(9, let(2, at(5, op("!", number(1))))))
	wantAt(t, 9, let(2, number(1)), at(9, let(2, at(5, truth(1)))), at(3, let(3, op("!", number(1)))))
	wantAt(t, 9, let(2, number(1)), at(9, let(2, op("<", local(2), local(2)))))
	wantLocals(t, []int{1, 3, 1, 0, 0, 0}, let(2, number(1)), let(2, op("+", local(2), local(2))))
}

// TestUntyped: a local that no KLet has typed, or none up to there.
func TestUntyped(t *testing.T) {
	wantLocals(t, []int{1, 3, 0, 0, 0, 0})
	wantLocals(t, []int{1, 3, 0, 0, 0, 2}, let(5, place(5)))
	wantLocals(t, []int{1, 3, 3, 0, 1, 0}, let(4, local(0)), let(2, local(1)))
	x := at(9, local(4))
	for _, n := range []api.Node{
		let(2, x), let(4, x), node(api.KSet, x, number(1)), node(api.KSet, local(0), x), node(api.KSet, x, x), node(api.KSet, x, at(5, op("!", number(1)))),
		does(api.KCall, 0, x, truth(1)), does(api.KGo, 0, float(1), x), does(api.KSend, 0, x), does(api.KRecv, 1, x), does(api.KAdd, 0, x), does(api.KPut, 0, x), does(api.KGet, 0, x),
		node(api.KFail, x), node(api.KIf, x, block()), node(api.KWhile, x, block()), node(api.KFail, elem(0, 3, x)), node(api.KFail, op("-", x)), node(api.KFail, op("+", x, at(5, local(5)))), node(api.KFail, op("==", number(1), x)), node(api.KFail, op("==", x, x)),
	} {
		wantAt(t, 9, n)
		wantAt(t, 9, n, let(4, number(1)))
		wantAt(t, 9, node(api.KIf, truth(1), block(n), block(let(4, number(1)))))
		wantAt(t, 9, let(3, number(1)), n, let(4, truth(1)))
		p := around()
		p.Funcs[0].Locals = []int{2, 3, 0, 0, 0}
		p.Funcs[0].Block = block(let(4, number(1))) // another function's local of that number
		p.Funcs[1].Block = block(n)
		refused(t, p, api.Bad{Err: api.ErrType, At: 9})
	}
	fine := node(api.KFail, x)
	wantLocals(t, []int{1, 3, 0, 0, 1, 0}, let(4, number(1)), fine)
	wantLocals(t, []int{1, 3, 0, 0, 1, 0}, node(api.KIf, truth(1), block(let(4, number(1))), block(fine)), fine)
	wantLocals(t, []int{1, 3, 0, 0, 1, 0}, node(api.KWhile, truth(1), block(node(api.KWhile, truth(1), block(let(4, number(1)))), fine)))
}

// here is a node at which an error is wanted.
func here(n api.Node) api.Node {
	n.At = 1
	return n
}

// moved is a tree whose node that is here stands at a byte, and all others elsewhere, no two at one.
func moved(n api.Node, byte int, next *int) api.Node {
	*next++
	if n.At == 1 {
		n.At = byte
	} else {
		n.At = *next
	}
	n.Kids = slices.Clone(n.Kids)
	for i, kid := range n.Kids {
		n.Kids[i] = moved(kid, byte, next)
	}
	return n
}

// TestPlacesOfErrors: each error with the byte that its node has, whatever that is.
func TestPlacesOfErrors(t *testing.T) {
	i, f, b, no := number(1), float(1), truth(1), block()
	wrong := node(api.KFail, b)
	for _, n := range []api.Node{
		here(node(api.KSet, local(0), b)), here(node(api.KSet, local(1), i)), here(node(api.KSet, elem(3, 2, i), f)), node(api.KSet, here(elem(3, 2, b)), b), node(api.KSet, here(elem(3, 2, b)), op("!", i)), node(api.KSet, local(0), here(op("!", i))),
		here(does(api.KGo, 0)), here(does(api.KCall, 0, f)), here(does(api.KCall, 0, f, b, b)), here(does(api.KGo, 0, i, i, i)), here(does(api.KGo, 2, i)), here(does(api.KCall, 1, b)), here(does(api.KCall, 1, op("!", i))), here(does(api.KGo, 2, op("!", i))),
		does(api.KGo, 0, here(i), b), does(api.KCall, 0, here(b), f), does(api.KGo, 0, f, here(f)), does(api.KCall, 1, here(b), b), does(api.KCall, 1, i, here(i)), does(api.KCall, 1, here(b), op("!", i)), does(api.KGo, 1, i, here(op("!", i))), does(api.KGo, 1, here(op("!", i)), i),
		does(api.KSend, 0, here(f)), does(api.KSend, 0, here(b)), does(api.KSend, 1, here(i)), does(api.KSend, 2, here(f)), does(api.KRecv, 0, here(local(1))), does(api.KRecv, 1, here(place(0))), does(api.KRecv, 2, here(elem(0, 3, i))), does(api.KRecv, 2, here(elem(3, 2, b))),
		does(api.KAdd, 1, here(f)), does(api.KAdd, 2, here(b)), does(api.KPut, 0, here(f)), does(api.KPut, 1, here(b)), does(api.KGet, 0, here(place(5))), does(api.KGet, 2, here(local(1))), node(api.KFail, here(f)), node(api.KFail, here(b)), node(api.KFail, elem(0, 3, here(op("-", b)))),
		node(api.KIf, here(i), no), node(api.KIf, here(f), no, no), node(api.KIf, here(f), block(wrong), block(wrong)), node(api.KWhile, here(i), no), node(api.KWhile, here(f), block(wrong)), node(api.KIf, here(op("!", i)), block(wrong)), node(api.KWhile, here(op("!", f)), block(wrong)),
		let(2, here(op("!", i))), let(2, here(op("+", i, f))), let(2, here(op("%", f, f))), let(2, op("!", here(op("-", b)))), let(2, op("+", here(op("float", f)), op("!", i))), let(2, op("==", i, here(op("&&", i, b)))), let(2, here(elem(0, 3, f))), node(api.KIf, b, no, block(here(let(3, f)))),
	} {
		for _, byte := range []int{-1, 0, 7, math.MinInt, math.MaxInt} {
			for _, stmts := range [][]api.Node{{n}, {n, wrong}, {let(3, i), n, wrong}, {node(api.KIf, b, block(n), block(wrong))}, {node(api.KWhile, b, block(n, wrong)), wrong}} {
				next := 100
				whole := moved(block(append([]api.Node{let(3, i)}, stmts...)...), byte, &next)
				wantAt(t, byte, whole.Kids...)
			}
		}
	}
}

// TestOperatorNames: layer 8 lets operators have any name; one that there isn't, or that stands with other kids than its own, is an ErrType.
func TestOperatorNames(t *testing.T) {
	values := []api.Node{{}, at(1, number(7)), at(2, float(7)), at(3, truth(1))}
	names := slices.Concat(unaries, binaries, []string{"", "x", "?", "bool", "=", ":=", "--", "+ ", "&", "|", "^", "<<", "INT", "-\x00", "true"})
	for _, name := range names {
		for left := api.TInt; left <= api.TBool; left++ {
			wantOp(t, at(9, op(name, values[left])), table[name+" "+typeNames[left]])
			for right := api.TInt; right <= api.TBool; right++ {
				wantOp(t, at(9, op(name, values[left], values[right])), table[name+" "+typeNames[left]+" "+typeNames[right]])
			}
		}
	}
}

func wantOp(t *testing.T, n api.Node, want string) {
	t.Helper()
	if want == "" {
		wantAt(t, 9, let(2, n))
		return
	}
	f := typed(t, around(let(2, n))).Funcs[1]
	if got := f.Locals[2]; typeNames[got] != want || f.Block.Kids[0].Kids[0].Type != got {
		t.Errorf("%s: %d, want %s", tell(n), got, want)
	}
}

// fine is a program of all kinds of nodes whose types are right.
func fine() api.Program {
	i, f, b := number(4), float(5), truth(1)
	p := around(
		let(2, op("<", op("-", i), elem(0, 3, local(0)))), let(3, op("int", place(5))), let(2, local(1)), let(5, op("/", f, f)),
		node(api.KSet, elem(1, 2, i), op("%", local(3), i)), node(api.KSet, local(5), op("float", i)), node(api.KSet, place(3), op("!", b)),
		does(api.KGo, 0, local(5), b), does(api.KCall, 1, local(3), op("==", b, b)), does(api.KCall, 2), does(api.KLock, 1), does(api.KUnlock, 0),
		does(api.KSend, 1, f), does(api.KRecv, 2, place(4)), does(api.KAdd, 2, i), does(api.KPut, 0, i), does(api.KGet, 1, elem(0, 3, i)),
		node(api.KIf, b, block(node(api.KReturn)), block(node(api.KFail, i))), node(api.KIf, local(2), block()), node(api.KWhile, op("!=", b, local(2)), block(let(2, b))),
	)
	p.Funcs[0].Block = block(let(2, local(0)), node(api.KFail, op("int", local(2))))
	for k := range p.Funcs {
		spread(&p.Funcs[k].Block, 100*k)
	}
	return p
}

// spread gives all nodes of a tree another byte each.
func spread(n *api.Node, from int) int {
	n.At = from
	for i := range n.Kids {
		from = spread(&n.Kids[i], from+1)
	}
	return from
}

// nodesOf is all nodes of a program, in order of the text.
func nodesOf(p api.Program) []*api.Node {
	var list []*api.Node
	var walk func(n *api.Node)
	walk = func(n *api.Node) {
		list = append(list, n)
		for i := range n.Kids {
			walk(&n.Kids[i])
		}
	}
	for i := range p.Funcs {
		walk(&p.Funcs[i].Block)
	}
	return list
}

// bytesOf is where the nodes of a program stand.
func bytesOf(p api.Program) []int {
	var list []int
	for _, n := range nodesOf(p) {
		list = append(list, n.At)
	}
	return list
}

// apart is a copy of a program that shares nothing with it.
func apart(p api.Program) api.Program {
	p.Places, p.Chans, p.Funcs = slices.Clone(p.Places), slices.Clone(p.Chans), slices.Clone(p.Funcs)
	for i := range p.Funcs {
		p.Funcs[i].Locals = slices.Clone(p.Funcs[i].Locals)
		p.Funcs[i].Block = deep(p.Funcs[i].Block)
	}
	return p
}

func deep(n api.Node) api.Node {
	n.Kids = slices.Clone(n.Kids)
	for i, kid := range n.Kids {
		n.Kids[i] = deep(kid)
	}
	return n
}

// TestAllElseStays: Check changes nothing but types; names, places in the text and bits stay.
func TestAllElseStays(t *testing.T) {
	p := fine()
	for i, n := range nodesOf(p) {
		if n.Kind != api.KUnary && n.Kind != api.KBinary {
			n.Name = fmt.Sprint("name ", i)
		}
	}
	p.Funcs[0].Name, p.Funcs[1].Name, p.Funcs[2].Name = "", "one", "one"
	q := typed(t, p)
	expressions := 0
	for _, n := range nodesOf(q) {
		if want := n.Kind >= api.KInt; want != (n.Type != 0) {
			t.Errorf("kind %d: type %d", n.Kind, n.Type)
		}
		if n.Kind >= api.KInt {
			expressions++
		}
		n.Type = 0
	}
	for i := range q.Funcs {
		clear(q.Funcs[i].Locals[q.Funcs[i].Params:])
	}
	if !scope.Same(q, p) || !slices.Equal(bytesOf(q), bytesOf(p)) || expressions < 30 {
		t.Errorf("%+v, want %+v", q, p)
	}
}

// TestTypesThere: types that nodes and locals have already don't matter to Check, but to Typed.
func TestTypesThere(t *testing.T) {
	p := fine()
	want := typed(t, p)
	if err := kind.Typed(p); err != api.ErrCode {
		t.Errorf("Typed of a program without types: %v", err)
	}
	holds := func(what string, p api.Program, same bool) {
		t.Helper()
		if q, bad := kind.Check(p); bad != (api.Bad{}) || !reflect.DeepEqual(q, want) {
			t.Errorf("%s: %s, %v", what, tell(q), bad)
		}
		if err := kind.Typed(p); same != (err == nil) || !same && err != api.ErrCode {
			t.Errorf("%s: %v", what, err)
		}
	}
	for _, v := range []int{math.MinInt, -1, 0, 1, 2, 3, 4, math.MaxInt} {
		all := apart(want)
		for i, n := range nodesOf(all) {
			q := apart(want)
			one := nodesOf(q)[i]
			same := one.Type == v
			one.Type, n.Type = v, v
			holds(fmt.Sprintf("node %d with type %d", i, v), q, same)
		}
		for k, f := range all.Funcs {
			for i := f.Params; i < len(f.Locals); i++ {
				q := apart(want)
				same := q.Funcs[k].Locals[i] == v
				q.Funcs[k].Locals[i], f.Locals[i] = v, v
				holds(fmt.Sprintf("local %d of %d with type %d", i, k, v), q, same)
			}
		}
		holds(fmt.Sprintf("all with type %d", v), all, false)
	}
}

// TestParameterTypes: a parameter's type, beside those of other locals, does matter.
func TestParameterTypes(t *testing.T) {
	for v := -1; v <= 4; v++ {
		p := around(node(api.KSet, at(8, local(0)), number(1)))
		p.Funcs[1].Locals[0] = v
		p.Funcs[1].Block.Kids[0].At = 9
		switch v {
		case api.TInt:
			typed(t, p)
		case api.TFloat, api.TBool:
			refused(t, p, api.Bad{Err: api.ErrType, At: 9})
		default:
			refused(t, p, api.Bad{Err: api.ErrCode})
		}
	}
}

// TestTypedIsSame: places in the text don't matter to Typed, nor whether an empty list is nil.
func TestTypedIsSame(t *testing.T) {
	p := typed(t, fine())
	for i, n := range nodesOf(p) {
		n.At = -i
		if n.Kids == nil {
			n.Kids = []api.Node{}
		}
	}
	p.Funcs[2].Locals = []int{}
	if err := kind.Typed(p); err != nil {
		t.Error(err)
	}
	empty := api.Program{Places: []int{}, Chans: []api.Chan{}, Funcs: []api.Func{{Locals: []int{}, Block: api.Node{Kind: api.KBlock, Kids: []api.Node{}}}}}
	for _, p := range []api.Program{empty, {Funcs: []api.Func{{Block: block()}}}, resolvedEmpty(t)} {
		if q, bad := kind.Check(p); bad != (api.Bad{}) || !scope.Same(p, q) {
			t.Errorf("%+v: %+v, %v", p, q, bad)
		}
		if err := kind.Typed(p); err != nil {
			t.Errorf("%+v: %v", p, err)
		}
	}
}

func resolvedEmpty(t *testing.T) api.Program {
	return resolved(t, "func main() { }")
}

// TestNotGood: ErrCode at 0, also where a type is wrong, wherever that stands.
func TestNotGood(t *testing.T) {
	refused(t, api.Program{}, api.Bad{Err: api.ErrCode})
	for what, change := range map[string]func(p *api.Program){
		"no functions":       func(p *api.Program) { p.Funcs = nil },
		"no main":            func(p *api.Program) { p.Main = 3 },
		"main below 0":       func(p *api.Program) { p.Main = -1 },
		"main's parameters":  func(p *api.Program) { p.Main = 0 },
		"a place's type":     func(p *api.Program) { p.Places[5] = 0 },
		"a place's type 4":   func(p *api.Program) { p.Places[2] = 4 },
		"too many places":    func(p *api.Program) { p.Places = slices.Repeat([]int{1}, api.MaxPlaces+1) },
		"too few places":     func(p *api.Program) { p.Places = p.Places[:5] },
		"a row of two types": func(p *api.Program) { p.Places[0] = 2 },
		"a channel's type":   func(p *api.Program) { p.Chans[0].Type = 0 },
		"a channel's room":   func(p *api.Program) { p.Chans[0].Room = api.MaxRoom + 1 },
		"too few channels":   func(p *api.Program) { p.Chans = p.Chans[:2] },
		"too few mutexes":    func(p *api.Program) { p.Mutexes = 1 },
		"too few atomics":    func(p *api.Program) { p.Atomics = 2 },
		"too many mutexes":   func(p *api.Program) { p.Mutexes = math.MaxInt },
		"too many functions": func(p *api.Program) { p.Funcs = slices.Repeat(p.Funcs[2:], api.MaxFuncs+1) },
		"a parameter's type": func(p *api.Program) { p.Funcs[0].Locals[1] = 0 },
		"too few locals":     func(p *api.Program) { p.Funcs[1].Locals = p.Funcs[1].Locals[:5] },
		"no locals":          func(p *api.Program) { p.Funcs[0].Locals = nil },
		"too many locals":    func(p *api.Program) { p.Funcs[2].Locals = make([]int, api.MaxLocals+1) },
		"a parameter's KLet": func(p *api.Program) { p.Funcs[0].Block = block(let(1, truth(1))) },
		"too many arguments": func(p *api.Program) { p.Funcs[1].Params = 5 },
		"no block":           func(p *api.Program) { p.Funcs[2].Block = api.Node{} },
		"an expression":      func(p *api.Program) { p.Funcs[2].Block = block(number(1)) },
		"a name":             func(p *api.Program) { p.Funcs[2].Block = block(node(api.KFail, api.Node{Kind: api.KName, Name: "x"})) },
		"no kid":             func(p *api.Program) { p.Funcs[2].Block = block(node(api.KFail)) },
		"a kid too many":     func(p *api.Program) { p.Funcs[2].Block = block(node(api.KReturn, number(1))) },
		"no such function":   func(p *api.Program) { p.Funcs[2].Block = block(does(api.KCall, 3)) },
		"no such channel":    func(p *api.Program) { p.Funcs[2].Block = block(does(api.KSend, -1, number(1))) },
		"no such local":      func(p *api.Program) { p.Funcs[2].Block = block(let(0, number(1))) },
		"no such place":      func(p *api.Program) { p.Funcs[2].Block = block(node(api.KFail, place(6))) },
		"no such elements":   func(p *api.Program) { p.Funcs[2].Block = block(node(api.KFail, elem(4, 3, number(1)))) },
		"an int below 0":     func(p *api.Program) { p.Funcs[2].Block = block(node(api.KFail, number(-1))) },
		"a bool of 2":        func(p *api.Program) { p.Funcs[2].Block = block(node(api.KFail, truth(2))) },
		"set a number":       func(p *api.Program) { p.Funcs[2].Block = block(node(api.KSet, number(1), number(1))) },
		"another field":      func(p *api.Program) { p.Funcs[2].Block.Bits = 1 },
	} {
		for _, wrong := range []bool{false, true} {
			p := fine()
			if wrong {
				kids := &p.Funcs[1].Block.Kids
				*kids = slices.Insert(*kids, 0, at(33, node(api.KFail, at(34, truth(1)))))
			}
			change(&p)
			if scope.Good(p) == nil {
				t.Errorf("%s is good", what)
			}
			refused(t, p, api.Bad{Err: api.ErrCode})
		}
	}
}

// TestFunctionByFunction: the first ErrType is that of the first function, whichever is main and wherever the functions stand in a text.
func TestFunctionByFunction(t *testing.T) {
	for main := range 3 {
		p := api.Program{Main: main}
		for i := range 3 {
			p.Funcs = append(p.Funcs, api.Func{Block: block(node(api.KFail, at(30-i, truth(1))))})
		}
		for i := range 3 {
			refused(t, p, api.Bad{Err: api.ErrType, At: 30 - i})
			p.Funcs[i].Block = block()
		}
		typed(t, p)
	}
}

// TestGreatPrograms: there is no limit but those told.
func TestGreatPrograms(t *testing.T) {
	e, blocks := number(1), block(node(api.KReturn))
	for i := range 980 {
		e = op("-", number(1), e)
		if i%2 == 0 {
			blocks = block(node(api.KWhile, truth(1), blocks))
		}
	}
	for _, b := range []api.Node{block(slices.Repeat([]api.Node{node(api.KReturn)}, 9990)...), block(slices.Repeat([]api.Node{node(api.KFail, number(1))}, 4990)...), block(node(api.KFail, e)), blocks} {
		p := api.Program{Funcs: []api.Func{{Block: b}}}
		if q := typed(t, p); len(nodesOf(q)) != len(nodesOf(p)) {
			t.Errorf("%s", tell(q))
		}
	}
	e = at(7, op("!", number(1)))
	for range 980 {
		e = at(9, op("!", e))
	}
	refused(t, api.Program{Funcs: []api.Func{{Block: block(node(api.KFail, e))}}}, api.Bad{Err: api.ErrType, At: 7})
}

// withRoom is a list with spare room, in which something stands.
func withRoom[T any](list []T, spare T) []T {
	return append(append(make([]T, 0, len(list)+1), list...), spare)[:len(list)]
}

// roomy is a copy of a program whose lists all have spare room.
func roomy(p api.Program) api.Program {
	p.Places, p.Chans, p.Funcs = withRoom(p.Places, 77), withRoom(p.Chans, api.Chan{Type: 77}), withRoom(p.Funcs, api.Func{Params: 77})
	for i := range p.Funcs {
		p.Funcs[i].Locals = withRoom(p.Funcs[i].Locals, 77)
		p.Funcs[i].Block = roomyTree(p.Funcs[i].Block)
	}
	return p
}

func roomyTree(n api.Node) api.Node {
	n.Kids = withRoom(n.Kids, api.Node{Kind: 77})
	for i := range n.Kids {
		n.Kids[i] = roomyTree(n.Kids[i])
	}
	return n
}

// whole is a list with its spare room.
func whole[T any](list []T) []T {
	return list[:cap(list)]
}

// inWhole is what a program holds, its lists' spare room included.
func inWhole(p api.Program) string {
	text := fmt.Sprintln(p.Mutexes, p.Atomics, p.Main, whole(p.Places), whole(p.Chans), len(whole(p.Funcs)))
	var walk func(n api.Node)
	walk = func(n api.Node) {
		text += fmt.Sprintln(n.Kind, n.At, n.Name, n.Type, n.N, n.Size, n.Obj, n.Bits, len(n.Kids))
		for _, kid := range whole(n.Kids) {
			walk(kid)
		}
	}
	for _, f := range whole(p.Funcs) {
		text += fmt.Sprintln(f.Name, f.Params, whole(f.Locals))
		walk(f.Block)
	}
	return text
}

// TestWhatIsHandedIn: a program is neither changed nor kept, its lists' spare room included.
func TestWhatIsHandedIn(t *testing.T) {
	wrong := fine()
	wrong.Funcs[2].Block = block(node(api.KFail, truth(1)))
	bad := fine()
	bad.Main = 7
	for _, p := range []api.Program{fine(), typed(t, fine()), wrong, bad} {
		p = roomy(p)
		before := inWhole(p)
		q, _ := kind.Check(p)
		kind.Typed(p)
		if inWhole(p) != before {
			t.Error("the program was changed")
		}
		answer := fmt.Sprint(q)
		for _, n := range nodesOf(p) {
			n.Type, n.N = 99, 99
		}
		for i := range p.Funcs {
			clear(whole(p.Funcs[i].Locals))
		}
		clear(whole(p.Places))
		clear(whole(p.Chans))
		clear(whole(p.Funcs))
		if fmt.Sprint(q) != answer {
			t.Error("the program was kept")
		}
	}
}

// TestAnswersAreNew: no two lists of an answer share memory, nor does one with what is handed in, spare room included; nor is an answer kept.
func TestAnswersAreNew(t *testing.T) {
	p := roomy(fine())
	q, _ := kind.Check(p)
	again, _ := kind.Check(p)
	if !reflect.DeepEqual(q, again) {
		t.Error("another answer the second time")
	}
	seen := map[any]bool{}
	for _, p := range []api.Program{p, q, again} {
		for _, place := range addresses(p) {
			if seen[place] {
				t.Error("shared memory")
			}
			seen[place] = true
		}
	}
	for _, n := range nodesOf(q) {
		*n = api.Node{}
	}
	clear(q.Places)
	clear(q.Funcs)
	if last, _ := kind.Check(p); !reflect.DeepEqual(last, again) {
		t.Error("the answer was kept")
	}
}

// addresses is where each thing of a program's lists stands, spare room included.
func addresses(p api.Program) []any {
	var list []any
	list = append(list, each(p.Places)...)
	list = append(list, each(p.Chans)...)
	list = append(list, each(p.Funcs)...)
	for _, f := range p.Funcs {
		list = append(list, each(f.Locals)...)
		list = append(list, kidsOf(f.Block)...)
	}
	return list
}

func kidsOf(n api.Node) []any {
	list := each(n.Kids)
	for _, kid := range n.Kids {
		list = append(list, kidsOf(kid)...)
	}
	return list
}

func each[T any](list []T) []any {
	var places []any
	for i := range whole(list) {
		places = append(places, &whole(list)[i])
	}
	return places
}
