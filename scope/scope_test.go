package scope_test

import (
	"fmt"
	"math"
	"reflect"
	"slices"
	"strings"
	"testing"

	"stockade/api"
	"stockade/scope"
	"stockade/tree"
)

// The tests of P8.1 by tables: what Resolve makes of ordinary programs, and with which error at which byte it refuses others.

// tell is a value's beginning, since programs may be great.
func tell(v any) string {
	text := fmt.Sprintf("%+v", v)
	return text[:min(len(text), 300)]
}

func parsed(t *testing.T, src string) api.Node {
	t.Helper()
	n, bad := tree.Parse(src)
	if bad.Err != nil {
		t.Fatalf("Parse(%s): %v", tell(src), bad)
	}
	return n
}

func resolved(t *testing.T, src string) api.Program {
	t.Helper()
	p, bad := scope.Resolve(parsed(t, src))
	if bad != (api.Bad{}) {
		t.Fatalf("Resolve(%s): %v", tell(src), bad)
	}
	return p
}

// wantBad asks for the error of a text, and that nothing comes with it. Where a text has a "$", the error is at the byte behind that, which isn't in the text; else at 0.
func wantBad(t *testing.T, src string, err error) {
	t.Helper()
	at := max(0, strings.Index(src, "$"))
	n := parsed(t, strings.Replace(src, "$", "", 1))
	if p, bad := scope.Resolve(n); bad != (api.Bad{Err: err, At: at}) || !reflect.DeepEqual(p, api.Program{}) {
		t.Errorf("Resolve(%s): %s, %v, want %v at %d", tell(src), tell(p), bad, err, at)
	}
}

func wantFine(t *testing.T, src string) {
	t.Helper()
	if err := scope.Good(resolved(t, src)); err != nil {
		t.Errorf("Good(%s): %v", tell(src), err)
	}
}

// bare is a tree without the places of its nodes, its empty lists nil.
func bare(n api.Node) api.Node {
	n.At = 0
	var kids []api.Node
	for _, kid := range n.Kids {
		kids = append(kids, bare(kid))
	}
	n.Kids = kids
	return n
}

func local(n int) api.Node {
	return api.Node{Kind: api.KLocal, N: n}
}

func place(n int) api.Node {
	return api.Node{Kind: api.KPlace, N: n}
}

func elem(first, size int, kid api.Node) api.Node {
	return api.Node{Kind: api.KElem, N: first, Size: size, Kids: []api.Node{kid}}
}

func number(n int) api.Node {
	return api.Node{Kind: api.KInt, N: n}
}

func truth(n int) api.Node {
	return api.Node{Kind: api.KBool, N: n}
}

func block(stmts ...api.Node) api.Node {
	return api.Node{Kind: api.KBlock, Kids: stmts}
}

// does is a statement about an object.
func does(kind int, name string, obj int, kids ...api.Node) api.Node {
	return api.Node{Kind: kind, Name: name, Obj: obj, Kids: kids}
}

func let(name string, n int, kid api.Node) api.Node {
	return api.Node{Kind: api.KLet, Name: name, N: n, Kids: []api.Node{kid}}
}

func set(target, e api.Node) api.Node {
	return api.Node{Kind: api.KSet, Kids: []api.Node{target, e}}
}

// TestWholeProgram: each number and each place in the text of a program with all that can be declared.
func TestWholeProgram(t *testing.T) {
	p := resolved(t, "var x int; mutex m; func main() { y := x; a[y] = 2; go f(1, z); } var a[2] bool; func f(p int, q float) { lock n; p = a[x]; } mutex n; var z float;")
	want := api.Program{
		Places: []int{api.TInt, api.TBool, api.TBool, api.TFloat}, Mutexes: 2, Main: 0,
		Funcs: []api.Func{
			{Name: "main", Locals: []int{0}, Block: api.Node{Kind: api.KBlock, At: 32, Kids: []api.Node{
				{Kind: api.KLet, At: 34, Name: "y", N: 0, Kids: []api.Node{{Kind: api.KPlace, At: 39, N: 0}}},
				{Kind: api.KSet, At: 42, Kids: []api.Node{
					{Kind: api.KElem, At: 42, N: 1, Size: 2, Kids: []api.Node{{Kind: api.KLocal, At: 44, N: 0}}},
					{Kind: api.KInt, At: 49, N: 2}}},
				{Kind: api.KGo, At: 52, Name: "f", Obj: 1, Kids: []api.Node{{Kind: api.KInt, At: 57, N: 1}, {Kind: api.KPlace, At: 60, N: 3}}},
			}}},
			{Name: "f", Params: 2, Locals: []int{api.TInt, api.TFloat}, Block: api.Node{Kind: api.KBlock, At: 104, Kids: []api.Node{
				{Kind: api.KLock, At: 106, Name: "n", Obj: 1},
				{Kind: api.KSet, At: 114, Kids: []api.Node{
					{Kind: api.KLocal, At: 114, N: 0},
					{Kind: api.KElem, At: 118, N: 1, Size: 2, Kids: []api.Node{{Kind: api.KPlace, At: 120, N: 0}}}}},
			}}},
		},
	}
	if !reflect.DeepEqual(p, want) {
		t.Errorf("%+v, want %+v", p, want)
	}
	if err := scope.Good(p); err != nil {
		t.Error(err)
	}
}

func TestDeclarations(t *testing.T) {
	for src, want := range map[string]api.Program{
		"":                               {},
		"var x int;":                     {Places: []int{1}},
		"var x float; var y bool;":       {Places: []int{2, 3}},
		"var a[3] bool; var x int;":      {Places: []int{3, 3, 3, 1}},
		"var x int; var a[1] float;":     {Places: []int{1, 2}},
		"mutex m; mutex n;":              {Mutexes: 2},
		"atomic k; mutex m; atomic l;":   {Mutexes: 1, Atomics: 2},
		"chan c[0] int; chan d[8] bool;": {Chans: []api.Chan{{Type: 1, Room: 0}, {Type: 3, Room: 8}}},
		"var f float; chan g[1] float; mutex h; atomic i; var j[2] int;": {Places: []int{2, 1, 1}, Mutexes: 1, Atomics: 1, Chans: []api.Chan{{Type: 2, Room: 1}}},
	} {
		want.Funcs = []api.Func{{Name: "main", Block: block()}}
		for _, whole := range []string{src + "func main() { }", "func main() { }" + src} {
			p := resolved(t, whole)
			p.Funcs[0].Block = bare(p.Funcs[0].Block)
			if !reflect.DeepEqual(p, want) {
				t.Errorf("%s: %+v, want %+v", whole, p, want)
			}
		}
		if src != "" {
			wantBad(t, src, api.ErrNone)
		}
	}
	wantBad(t, "", api.ErrNone)
}

// shared declares one or more of each kind, so that each has another number.
const shared = "var v int; var w int; var a[3] int; var b[2] int; mutex m; mutex n; atomic i; atomic j; atomic k; chan c[0] int; chan d[1] int; chan e[2] int; chan g[3] int; func f0() { } func f1() { } func f2() { } func f3() { } func f4() { } "

func TestStatements(t *testing.T) {
	one := number(1)
	for src, want := range map[string]api.Node{
		"v = w;":                   set(place(0), place(1)),
		"w = v;":                   set(place(1), place(0)),
		"x := 1;":                  let("x", 2, one),
		"x := v;":                  let("x", 2, place(0)),
		"p = q;":                   set(local(0), local(1)),
		"a[p] = b[q];":             set(elem(2, 3, local(0)), elem(5, 2, local(1))),
		"a[a[b[v]]] = 1;":          set(elem(2, 3, elem(2, 3, elem(5, 2, place(0)))), one),
		"lock m;":                  does(api.KLock, "m", 0),
		"lock n;":                  does(api.KLock, "n", 1),
		"unlock m;":                does(api.KUnlock, "m", 0),
		"unlock n;":                does(api.KUnlock, "n", 1),
		"send c, 1;":               does(api.KSend, "c", 0, one),
		"send g, p;":               does(api.KSend, "g", 3, local(0)),
		"recv e, q;":               does(api.KRecv, "e", 2, local(1)),
		"recv d, a[q];":            does(api.KRecv, "d", 1, elem(2, 3, local(1))),
		"recv c, v;":               does(api.KRecv, "c", 0, place(0)),
		"add i, w;":                does(api.KAdd, "i", 0, place(1)),
		"add k, 1;":                does(api.KAdd, "k", 2, one),
		"put j, p;":                does(api.KPut, "j", 1, local(0)),
		"get k, b[1];":             does(api.KGet, "k", 2, elem(5, 2, one)),
		"get i, v;":                does(api.KGet, "i", 0, place(0)),
		"f0();":                    does(api.KCall, "f0", 0),
		"f4(1, v, p);":             does(api.KCall, "f4", 4, one, place(0), local(0)),
		"go f3();":                 does(api.KGo, "f3", 3),
		"go f1(a[1], q);":          does(api.KGo, "f1", 1, elem(2, 3, one), local(1)),
		"test(p);":                 does(api.KCall, "test", 5, local(0)),
		"go test();":               does(api.KGo, "test", 5),
		"main();":                  does(api.KCall, "main", 6),
		"go main();":               does(api.KGo, "main", 6),
		"return;":                  {Kind: api.KReturn},
		"fail v;":                  {Kind: api.KFail, Kids: []api.Node{place(0)}},
		"if p { }":                 {Kind: api.KIf, Kids: []api.Node{local(0), block()}},
		"if 1 {} else {}":          {Kind: api.KIf, Kids: []api.Node{one, block(), block()}},
		"while w { p=q; }":         {Kind: api.KWhile, Kids: []api.Node{place(1), block(set(local(0), local(1)))}},
		"fail #3ff0000000000000;":  {Kind: api.KFail, Kids: []api.Node{{Kind: api.KFloat, Bits: math.Float64bits(1)}}},
		"fail -v + int(p) < a[1];": {Kind: api.KFail, Kids: []api.Node{{Kind: api.KBinary, Name: "<", Kids: []api.Node{{Kind: api.KBinary, Name: "+", Kids: []api.Node{{Kind: api.KUnary, Name: "-", Kids: []api.Node{place(0)}}, {Kind: api.KUnary, Name: "int", Kids: []api.Node{local(0)}}}}, elem(2, 3, one)}}}},
		"fail !true && false;":     {Kind: api.KFail, Kids: []api.Node{{Kind: api.KBinary, Name: "&&", Kids: []api.Node{{Kind: api.KUnary, Name: "!", Kids: []api.Node{truth(1)}}, truth(0)}}}},
	} {
		p := resolved(t, shared+"func test(p int, q int) { "+src+" } func main() { }")
		if got := bare(p.Funcs[5].Block); !reflect.DeepEqual(got, block(want)) || p.Main != 6 {
			t.Errorf("%s: %+v, want %+v", src, got, block(want))
		}
		if err := scope.Good(p); err != nil {
			t.Errorf("Good(%s): %v", src, err)
		}
	}
}

// TestLocals: how many there are, their numbers, and where each one's name can be used.
func TestLocals(t *testing.T) {
	for src, want := range map[string]struct {
		block  api.Node
		locals []int
	}{
		"":                                       {block(), []int{1, 3}},
		"x := 1; y := 1;":                        {block(let("x", 2, number(1)), let("y", 3, number(1))), []int{1, 3, 0, 0}},
		"x := p; x = q; y := x;":                 {block(let("x", 2, local(0)), set(local(2), local(1)), let("y", 3, local(2))), []int{1, 3, 0, 0}},
		"if q { x := 1; p = x; } x := 2; p = x;": {block(api.Node{Kind: api.KIf, Kids: []api.Node{local(1), block(let("x", 2, number(1)), set(local(0), local(2)))}}, let("x", 3, number(2)), set(local(0), local(3))), []int{1, 3, 0, 0}},
		"if q { x := 1; } else { x := 2; p = x; }":       {block(api.Node{Kind: api.KIf, Kids: []api.Node{local(1), block(let("x", 2, number(1))), block(let("x", 3, number(2)), set(local(0), local(3)))}}), []int{1, 3, 0, 0}},
		"x := 1; while q { y := x; x = y; } y := x;":     {block(let("x", 2, number(1)), api.Node{Kind: api.KWhile, Kids: []api.Node{local(1), block(let("y", 3, local(2)), set(local(2), local(3)))}}, let("y", 4, local(2))), []int{1, 3, 0, 0, 0}},
		"while q { while q { x := 1; } x := 2; p = x; }": {block(api.Node{Kind: api.KWhile, Kids: []api.Node{local(1), block(api.Node{Kind: api.KWhile, Kids: []api.Node{local(1), block(let("x", 2, number(1)))}}, let("x", 3, number(2)), set(local(0), local(3)))}}), []int{1, 3, 0, 0}},
	} {
		p := resolved(t, "func test(p int, q bool) { "+src+" } func main() { p := 1; q := p; p = q; x := q; }")
		f := p.Funcs[0]
		if got := bare(f.Block); !reflect.DeepEqual(got, want.block) || !reflect.DeepEqual(f.Locals, want.locals) || f.Params != 2 || f.Name != "test" {
			t.Errorf("%s: %+v, want %+v", src, f, want)
		}
		if m := p.Funcs[1]; !reflect.DeepEqual(m.Locals, []int{0, 0, 0}) || m.Params != 0 || p.Main != 1 {
			t.Errorf("%s: %+v, main %d", src, m, p.Main)
		}
		if err := scope.Good(p); err != nil {
			t.Errorf("Good(%s): %v", src, err)
		}
	}
}

func TestNotInForm(t *testing.T) {
	fine := parsed(t, "var x int; func main() { x = 1; }")
	for what, change := range map[string]func(n *api.Node){
		"kind":         func(n *api.Node) { n.Kind = api.KBlock },
		"no kind":      func(n *api.Node) { n.Kind = 0 },
		"a block":      func(n *api.Node) { n.Kids[0] = block() },
		"a keyword":    func(n *api.Node) { n.Kids[0].Name = "if" },
		"no type":      func(n *api.Node) { n.Kids[0].Type = 4 },
		"an object":    func(n *api.Node) { n.Kids[0].Obj = 1 },
		"no params":    func(n *api.Node) { n.Kids[1].N = 1 },
		"resolved":     func(n *api.Node) { n.Kids[1].Kids[0].Kids[0].Kids[0] = place(0) },
		"a name twice": func(n *api.Node) { n.Kids = append(n.Kids, n.Kids[0], block()) },
		"no main":      func(n *api.Node) { n.Kids[1].Name = "while" },
		"below 0":      func(n *api.Node) { n.Kids[0].Kind, n.Kids[0].N = api.KChan, -1 },
	} {
		n := deep(fine)
		change(&n)
		if p, bad := scope.Resolve(n); bad != (api.Bad{Err: api.ErrCode}) || !reflect.DeepEqual(p, api.Program{}) {
			t.Errorf("%s: %s, %v", what, tell(p), bad)
		}
	}
	for _, n := range []api.Node{{}, {Kind: api.KProgram, At: 7, N: 1}, {Kind: api.KElem, At: 7}} {
		if p, bad := scope.Resolve(n); bad != (api.Bad{Err: api.ErrCode}) || !reflect.DeepEqual(p, api.Program{}) {
			t.Errorf("%+v: %s, %v", n, tell(p), bad)
		}
	}
}

// deep is a tree that shares no list.
func deep(n api.Node) api.Node {
	n.Kids = slices.Clone(n.Kids)
	for i, kid := range n.Kids {
		n.Kids[i] = deep(kid)
	}
	return n
}

// TestDeclaredTwice: whatever the two are.
func TestDeclaredTwice(t *testing.T) {
	decls := []string{"var x int; ", "var x[2] int; ", "mutex x; ", "chan x[1] int; ", "atomic x; ", "func x() { } "}
	for _, first := range decls {
		wantFine(t, first+"func main() { }")
		wantBad(t, first+"func main(x int) { }", api.ErrNone) // asked ahead of all parameters
		wantBad(t, first+"func main() { } func f($x int) { }", api.ErrName)
		wantBad(t, first+"func main() { } func f(p int, q int, $x int, p int) { x := 1; }", api.ErrName)
		wantBad(t, first+"func main() { $x := 1; }", api.ErrName)
		wantBad(t, "func main() { if true { $x := 1; } } "+first, api.ErrName)
		for _, second := range decls {
			wantBad(t, first+"$"+second+"func main() { }", api.ErrName)
			wantBad(t, first+"func main() { } $"+second+first, api.ErrName)
			wantBad(t, "var y int; "+first+"func f(x int) { x = 1; } $"+second, api.ErrName)
		}
	}
	wantBad(t, "func main() { } $func main() { }", api.ErrName)
	wantBad(t, "var main int; $func main() { }", api.ErrName)
	wantBad(t, "func main() { } $var main int;", api.ErrName)
	wantBad(t, "func main() { $main := 1; }", api.ErrName)
	wantBad(t, "func main() { } func f($main int) { }", api.ErrName)
	wantBad(t, "func main() { } func f($f int) { }", api.ErrName)
	wantBad(t, "func main() { } func f($g int) { } func g() { }", api.ErrName)
}
