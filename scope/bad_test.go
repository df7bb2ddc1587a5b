package scope_test

import (
	"fmt"
	"math"
	"reflect"
	"slices"
	"strings"
	"testing"

	"stockade/api"
	"stockade/scope"
)

// TestLocalsTwice: parameters and locals whose name can be used already, and those whose name can't any more.
func TestLocalsTwice(t *testing.T) {
	wantBad(t, "func f(p int, $p int) { } func main() { }", api.ErrName)
	wantBad(t, "func f(p int, q int, r int, $q bool) { } func main() { }", api.ErrName)
	wantBad(t, "func main() { } func f(p int) { $p := 1; }", api.ErrName)
	wantBad(t, "func main() { } func f(p int) { while true { $p := 1; } }", api.ErrName)
	wantBad(t, "func main() { x := 1; $x := 2; }", api.ErrName)
	wantBad(t, "func main() { x := 1; y := 2; $x := y; }", api.ErrName)
	wantBad(t, "func main() { x := 1; if true { $x := 2; } }", api.ErrName)
	wantBad(t, "func main() { x := 1; if true { } else { $x := 2; } }", api.ErrName)
	wantBad(t, "func main() { x := 1; if true { while true { if true { } else { $x := x; } } } }", api.ErrName)
	wantBad(t, "func main() { if true { x := 1; $x := 2; } }", api.ErrName)
	wantBad(t, "func main() { if true { x := 1; } x := 2; $x := 3; }", api.ErrName)
	wantFine(t, "func main() { if true { x := 1; } if true { x := 1; } x := 2; }")
	wantFine(t, "func main() { if true { x := 1; while x { y := 1; } y := 2; } x := 2; y := x; }")
	wantFine(t, "func main() { if true { x := 1; } else { x := 2; } while true { x := 3; } }")
	wantFine(t, "func f(p int) { x := p; } func g(p int, x int) { y := 1; } func main() { p := 1; x := p; y := x; }")
}

// TestUnusable: names that can't be used there, in each part that has one.
func TestUnusable(t *testing.T) {
	decls := "var v int; var a[2] int; mutex m; chan c[1] int; atomic k; func f(x int) { x = 1; } "
	for _, stmt := range []string{
		"$x = 1;", "$x[1] = 1;", "v = $x;", "v = $x[1];", "v = v + $x;", "v = $x + v;", "v = -$x;", "v = int($x);", "v = a[$x];", "a[$x] = 1;", "a[a[$x]] = 1;",
		"y := $x;", "x := $x;", "x := 1 + $x[1];", "$x();", "$x(1);", "f($x);", "f(1, $x);", "$go x();", "go f(1, v, $x);",
		"$lock x;", "$unlock x;", "$send x, 1;", "send c, $x;", "$recv x, v;", "recv c, $x;", "recv c, a[$x];", "$add x, 1;", "add k, $x;", "$put x, 1;", "put k, $x;", "$get x, v;", "get k, $x;", "get k, $x[1];",
		"if $x { }", "if v { v = $x; }", "if v { } else { v = $x; }", "while $x { }", "while v { $lock x; }", "fail $x;", "fail !($x < v) || v;",
	} {
		for _, around := range []string{"%s", "if v { x := 1; x = 2; } %s", "%s x := 1;", "while v { x := 1; if x { x = 2; } } %s", "if v { x := 1; } else { %s }", "while v { if v { x := v; } %s }"} {
			wantBad(t, decls+"func main() { "+fmt.Sprintf(around, stmt)+" }", api.ErrName)
		}
	}
}

// TestOtherKinds: each part needs a name of its own kind.
func TestOtherKinds(t *testing.T) {
	decls := "var v int; var a[2] int; mutex m; chan c[1] int; atomic k; func f() { } func main() { } func test(p int) { l := 1; "
	kinds := map[string]string{"p": "variable", "l": "variable", "v": "variable", "a": "array", "m": "mutex", "c": "channel", "k": "atomic", "f": "function", "test": "function", "main": "function"}
	for form, needs := range map[string]string{
		"$%s = 1;": "variable", "$%s[1] = 1;": "array", "v = $%s;": "variable", "v = $%s[v];": "array", "v = 1 + a[$%s];": "variable", "x := $%s;": "variable", "x := -$%s[0];": "array",
		"$%s();": "function", "$%s(1, v);": "function", "$go %s();": "function", "$go %s(p);": "function", "f(1, $%s);": "variable", "go f($%s[1]);": "array",
		"$lock %s;": "mutex", "$unlock %s;": "mutex", "$send %s, 1;": "channel", "send c, $%s;": "variable", "$recv %s, v;": "channel", "recv c, $%s;": "variable", "recv c, $%s[l];": "array",
		"$add %s, 1;": "atomic", "add k, $%s;": "variable", "$put %s, p;": "atomic", "put k, $%s[1];": "array", "$get %s, l;": "atomic", "get k, $%s;": "variable",
		"if $%s { }": "variable", "while $%s { }": "variable", "while true { $lock %s; }": "mutex", "fail $%s;": "variable", "fail $%s[1];": "array",
	} {
		for name, kind := range kinds {
			src := decls + fmt.Sprintf(form, name) + " }"
			if kind == needs {
				wantFine(t, strings.Replace(src, "$", "", 1))
			} else {
				wantBad(t, src, api.ErrName)
			}
		}
	}
}

// TestFirstOfSeveral: where several errors apply, which one is told.
func TestFirstOfSeveral(t *testing.T) {
	decls := "var v int; var a[2] int; mutex m; chan c[1] int; atomic k; func f(p int) { } "
	for _, stmts := range []string{
		"$x = y;", "v = $x + y;", "v = v + $x * y;", "$x[y] = z;", "a[$x] = y;", "a[1] = $x[y];", "a[a[$x]] = a[y];",
		"x := $y; z = 1;", "$x = 1; v := 1;", "$v := 1; x = 1;", "v := $x;", "v := v + $v[1];", "x := 1; x := $y;", "x := 1; $x := x; y = 1;",
		"$x(y);", "f($x, y);", "f(1, a[$x], y);", "$go x(y);", "go f($x, y);", "$send x, y;", "send c, $x + y;", "$recv x, y;", "recv c, $x[y];", "$add x, y;", "$put x, y;", "$get x, y;", "get k, $x[y];",
		"if $x { y = 1; } else { z = 1; }", "if v { $x = 1; } else { y = 1; }", "if v { } else { $x = 1; } y = 1;", "while $x { y = 1; }", "while v { $x = 1; } y = 1;",
		"$lock x; unlock y;", "fail $x + y;", "fail -$x < -y;",
	} {
		wantBad(t, decls+"func main() { "+stmts+" } func g(m int) { u = 1; }", api.ErrName)
		wantBad(t, decls+"func g(q int) { v = 1; } func main() { } func h() { "+stmts+" }", api.ErrName)
	}
	wantBad(t, "func main() { $x = 1; } func f(p int, p int) { }", api.ErrName)
	wantBad(t, "func f(p int, $p int) { x = 1; } func main() { y = 1; }", api.ErrName)
	wantBad(t, "func f(p int) { } func main() { $x = 1; }", api.ErrName)
	wantBad(t, "func f(p int, p int) { x = 1; }", api.ErrNone)
	wantBad(t, "func main() { x = 1; } var a int; $var a int;", api.ErrName)
	wantBad(t, "var x int; $var x[0] int; func main() { }", api.ErrName)
	wantBad(t, "var x int; $var x[65] int;", api.ErrName)
	wantBad(t, "var x int; $chan x[9] int;", api.ErrName)
	wantBad(t, "var y int; $chan x[9] int; var x int; var y int;", api.ErrRange)
	wantBad(t, "var y int; $var x[0] int; chan d[9] int; func f(a int, b int, c int, d int, e int) { }", api.ErrRange)
	wantBad(t, "var x int; $func f(a int, b int, c int, d int, e int) { } var x int; chan d[9] int;", api.ErrLarge)
	wantBad(t, "var f int; $func f(a int, b int, c int, d int, e int) { }", api.ErrName)
}

func TestMainFunction(t *testing.T) {
	for _, src := range []string{"", "var x int;", "func f() { }", "func Main() { }", "var main int;", "var main[2] int;", "mutex main;", "chan main[1] int;", "atomic main;", "func main(p int) { }", "func f() { x = 1; }", "func f(p int, p int) { }", "func main(p int, p int) { p := 1; }"} {
		wantBad(t, src, api.ErrNone)
		wantBad(t, "\n\n "+src, api.ErrNone)
		wantBad(t, "func g() { } "+src, api.ErrNone)
		wantBad(t, src+" var y int;", api.ErrNone)
	}
	for i, src := range []string{"func main() { }", "func f() { } func main() { }", "func g(p int) { } var x int; func f() { } func main() { f(); }"} {
		if p := resolved(t, src); p.Main != i || p.Funcs[i].Name != "main" {
			t.Errorf("%s: %+v", src, p)
		}
	}
}

// several is as many texts as are asked for, each with its own number in it.
func several(many int, form string) string {
	texts := make([]string, many)
	for i := range texts {
		texts[i] = fmt.Sprintf(form, i)
	}
	return strings.Join(texts, "")
}

// TestObjects: variables, arrays, mutexes, channels and atomics count together.
func TestObjects(t *testing.T) {
	forms := []string{"var x%d int;", "var x%d[2] int;", "mutex x%d;", "chan x%d[1] int;", "atomic x%d;"}
	mixed := ""
	for i := range api.MaxObjects {
		mixed += fmt.Sprintf(forms[i%len(forms)], i)
	}
	for _, form := range forms {
		for _, many := range []string{mixed, several(api.MaxObjects, form)} {
			wantFine(t, many+"func main() { }")
			for _, last := range forms {
				wantBad(t, many+"$"+fmt.Sprintf(last, 99)+"func main() { }", api.ErrLarge)
				wantBad(t, many+"func f() { } $"+fmt.Sprintf(last, 99)+"mutex x0;", api.ErrLarge)
				wantBad(t, many+"$"+fmt.Sprintf(last, 7), api.ErrName)
			}
			wantBad(t, many+"$chan c[9] int;", api.ErrRange)
			wantBad(t, many+"$var a[0] int;", api.ErrRange)
		}
	}
}

func TestPlaces(t *testing.T) {
	for _, src := range []string{"var a[64] int; var b[64] int;", "var a[64] int; var b[63] int; var c int;", "var a[60] bool; var b[60] int; var c[8] float;", "var a int; var b[63] int; var c[64] int;", several(16, "var b%d[8] int;")} {
		p := resolved(t, src+"func main() { }")
		if len(p.Places) != api.MaxPlaces || scope.Good(p) != nil {
			t.Errorf("%s: %d places", src, len(p.Places))
		}
		wantBad(t, src+"$var z int; func main() { }", api.ErrLarge)
		wantBad(t, src+"$var z[1] int; func main() { }", api.ErrLarge)
		wantBad(t, src+"mutex m; $var z[64] int; func main() { }", api.ErrLarge)
		wantBad(t, src+"$var z[65] int; func main() { }", api.ErrRange)
		wantBad(t, src+"$var z[0] int; func main() { }", api.ErrRange)
		wantFine(t, src+"mutex z; chan c1[1] int; atomic k; func main() { }")
	}
	wantFine(t, "var a[64] int; var b[63] int; func main() { }")
	wantBad(t, "var a[64] int; var b[63] int; $var c[2] int; func main() { }", api.ErrLarge)
	wantBad(t, "var a[64] int; var b[63] int; $var c[64] int; var d int; var a int;", api.ErrLarge)
}

func TestElementsAndRoom(t *testing.T) {
	for _, n := range []int{1, 2, api.MaxElems - 1, api.MaxElems} {
		p := resolved(t, fmt.Sprintf("var a[%d] bool; func main() { }", n))
		if !slices.Equal(p.Places, slices.Repeat([]int{api.TBool}, n)) {
			t.Errorf("%d: %v", n, p.Places)
		}
	}
	for _, n := range []int{0, api.MaxElems + 1, api.MaxPlaces, api.MaxPlaces + 1, 1 << 32, math.MaxInt} {
		wantBad(t, fmt.Sprintf("mutex m; $var a[%d] int; func main() { }", n), api.ErrRange)
	}
	for n := range api.MaxRoom + 1 {
		p := resolved(t, fmt.Sprintf("chan c[%d] bool; func main() { }", n))
		if !slices.Equal(p.Chans, []api.Chan{{Type: api.TBool, Room: n}}) {
			t.Errorf("%d: %v", n, p.Chans)
		}
	}
	for _, n := range []int{api.MaxRoom + 1, 64, 1 << 32, math.MaxInt} {
		wantBad(t, fmt.Sprintf("mutex m; $chan c[%d] int; func main() { }", n), api.ErrRange)
	}
}

func TestFunctions(t *testing.T) {
	many := several(api.MaxFuncs-1, "func f%d() { }")
	wantFine(t, many+"func main() { f14(); }")
	wantFine(t, "func main() { } var x int;"+many+"mutex m;")
	wantBad(t, many+"func main() { } $func g() { }", api.ErrLarge)
	wantBad(t, many+"func main() { } mutex m; $func g() { } func main() { }", api.ErrLarge)
	wantBad(t, many+"func main() { } $func f0() { }", api.ErrName)
	wantBad(t, many+"func g() { } $func main() { }", api.ErrLarge)
	wantBad(t, many+"func g() { }", api.ErrNone)
}

func TestParameters(t *testing.T) {
	wantFine(t, "func f(a int, b int, c int, d int) { a = d; } func main() { }")
	p := resolved(t, "func f(a int, b float, c bool, d float) { e := d; } func main() { }")
	if f := p.Funcs[0]; f.Params != 4 || !slices.Equal(f.Locals, []int{1, 2, 3, 2, 0}) {
		t.Errorf("%+v", f)
	}
	wantBad(t, "mutex m; $func f(a int, b int, c int, d int, e int) { } func main() { }", api.ErrLarge)
	wantBad(t, "mutex m; $func f(a int, a int, m int, d int, e int) { } func main() { }", api.ErrLarge)
	wantBad(t, "mutex m; $func main(a int, b int, c int, d int, e int) { }", api.ErrLarge)
	wantBad(t, "func main(a int, b int, c int, d int) { }", api.ErrNone)
	wantBad(t, "func main() { x = 1; } $func f("+several(40, "a%d int, ")+"b int) { }", api.ErrLarge)
}

func TestMostLocals(t *testing.T) {
	lets := func(many int) string { return several(many, "x%d := 1; ") }
	wantFine(t, "func main() { "+lets(api.MaxLocals)+"}")
	wantFine(t, "func main() { "+lets(api.MaxLocals)+"} func f() { "+lets(api.MaxLocals)+"}")
	wantFine(t, "func main() { } func f(p int, q int) { "+lets(api.MaxLocals-2)+"}")
	wantFine(t, "func main() { while true { "+lets(20)+"} while true { "+lets(12)+"} }")
	wantBad(t, "func main() { "+lets(api.MaxLocals)+"$y := 1; }", api.ErrLarge)
	wantBad(t, "func main() { "+lets(api.MaxLocals)+"$y := 1; z = 1; }", api.ErrLarge)
	wantBad(t, "func main() { "+lets(api.MaxLocals)+"y := $y; }", api.ErrName)
	wantBad(t, "func main() { "+lets(api.MaxLocals)+"$x31 := 1; }", api.ErrName)
	wantBad(t, "func main() { "+lets(api.MaxLocals)+"$f := 1; } func f() { }", api.ErrName)
	wantBad(t, "func main() { } func f(p int, q int) { "+lets(api.MaxLocals-2)+"while true { $y := 1; } }", api.ErrLarge)
	wantBad(t, "func main() { while true { "+lets(20)+"} while true { "+lets(12)+"} $y := 1; }", api.ErrLarge)
	wantBad(t, "func main() { "+strings.Repeat("while true { x := 1; } ", 32)+"while true { $x := 1; } }", api.ErrLarge)
	wantFine(t, "func main() { "+strings.Repeat("while true { x := 1; } ", 32)+"}")
}

// TestPlacesOfErrors: the bytes are those that the nodes have, whatever these are.
func TestPlacesOfErrors(t *testing.T) {
	wrong := func(at int, n api.Node) {
		t.Helper()
		if _, bad := scope.Resolve(n); bad != (api.Bad{Err: api.ErrName, At: at}) {
			t.Errorf("%v, want %v at %d", bad, api.ErrName, at)
		}
	}
	for _, at := range []int{-1, 0, 5, math.MinInt, math.MaxInt} {
		n := parsed(t, "var x int; var x int; func main() { }")
		n.Kids[1].At = at
		wrong(at, n)
		n = parsed(t, "var x int; func f(x int) { } func main() { }")
		n.Kids[1].Kids[0].At = at
		wrong(at, n)
		n = parsed(t, "func main() { y = 1; }")
		n.Kids[0].Kids[0].Kids[0].Kids[0].At = at
		wrong(at, n)
		n = parsed(t, "func main() { lock y; }")
		n.Kids[0].Kids[0].Kids[0].At = at
		wrong(at, n)
		n = parsed(t, "func main() { main := 1; }")
		n.Kids[0].Kids[0].Kids[0].At = at
		wrong(at, n)
		n = parsed(t, "func f() { }")
		n.At, n.Kids[0].At = at, at
		if _, bad := scope.Resolve(n); bad != (api.Bad{Err: api.ErrNone}) {
			t.Error(bad)
		}
		n = parsed(t, "func main() { x := 1; }")
		n.Kids[0].At, n.Kids[0].Kids[0].At, n.Kids[0].Kids[0].Kids[0].At = at, at, at
		if p, bad := scope.Resolve(n); bad != (api.Bad{}) || p.Funcs[0].Block.At != at || p.Funcs[0].Block.Kids[0].At != at {
			t.Error(tell(p), bad)
		}
	}
}

// TestGreatTrees: there is no limit but those told.
func TestGreatTrees(t *testing.T) {
	stop, in := api.Node{Kind: api.KReturn}, func(b api.Node) api.Node {
		return api.Node{Kind: api.KProgram, Kids: []api.Node{{Kind: api.KVar, Name: "x", Type: 1}, {Kind: api.KFunc, Name: "main", Kids: []api.Node{b}}}}
	}
	x := api.Node{Kind: api.KName, Name: "x"}
	e, blocks := x, block(stop)
	for i := range 980 {
		e = api.Node{Kind: api.KBinary, Name: "-", Kids: []api.Node{number(1), e}}
		if i%2 == 0 {
			blocks = block(api.Node{Kind: api.KWhile, Kids: []api.Node{x, blocks}})
		}
	}
	for _, b := range []api.Node{block(slices.Repeat([]api.Node{stop}, 9990)...), block(set(x, e)), blocks} {
		p, bad := scope.Resolve(in(b))
		if bad != (api.Bad{}) || scope.Good(p) != nil || !scope.Same(p, p) || len(p.Funcs[0].Block.Kids) != len(b.Kids) {
			t.Errorf("%s, %v", tell(p), bad)
		}
	}
}

// TestWhatIsHandedIn: a tree and a program are neither changed nor kept, their lists' spare room included.
func TestWhatIsHandedIn(t *testing.T) {
	for _, src := range []string{
		shared + "func main() { x := v; a[x] = b[1]; if x { y := x; lock m; } else { send c, 1; } recv d, a[x]; go f1(x, 2); add i, -x; }",
		shared + "func main() { x := v; a[x] = b[1]; y = 1; }", "func f(p int) { }", "var x int; var x int;",
	} {
		n := roomy(parsed(t, src))
		before := deepRoom(n)
		p, bad := scope.Resolve(n)
		if !reflect.DeepEqual(deepRoom(n), before) {
			t.Errorf("%s: the tree was changed", src)
		}
		if bad.Err != nil {
			continue
		}
		first := fmt.Sprint(p)
		spoil(n)
		if fmt.Sprint(p) != first {
			t.Errorf("%s: the tree was kept", src)
		}
		q := roomyProgram(p)
		was := fmt.Sprint(wholeRoom(q))
		scope.Good(q)
		scope.Same(q, p)
		scope.Same(p, q)
		if fmt.Sprint(wholeRoom(q)) != was {
			t.Errorf("%s: the program was changed", src)
		}
	}
}

// roomy is a copy of a tree whose lists have spare room with a node in it.
func roomy(n api.Node) api.Node {
	kids := make([]api.Node, 0, len(n.Kids)+1)
	for _, kid := range n.Kids {
		kids = append(kids, roomy(kid))
	}
	n.Kids = append(kids, api.Node{Kind: api.KReturn, At: 77})[:len(kids)]
	return n
}

// deepRoom is a copy of a tree with its lists' spare room.
func deepRoom(n api.Node) api.Node {
	n.Kids = slices.Clone(n.Kids[:cap(n.Kids)])
	for i, kid := range n.Kids {
		n.Kids[i] = deepRoom(kid)
	}
	return n
}

func spoil(n api.Node) {
	for i := range n.Kids {
		spoil(n.Kids[i])
		n.Kids[i] = api.Node{Kind: -1}
	}
}

func room[T any](list []T, spare T) []T {
	return append(append(make([]T, 0, len(list)+1), list...), spare)[:len(list)]
}

func roomyProgram(p api.Program) api.Program {
	p.Places, p.Chans = room(p.Places, 77), room(p.Chans, api.Chan{Type: 77})
	p.Funcs = room(p.Funcs, api.Func{Params: 77})
	for i := range p.Funcs {
		p.Funcs[i].Locals = room(p.Funcs[i].Locals, 77)
		p.Funcs[i].Block = roomy(p.Funcs[i].Block)
	}
	return p
}

func wholeRoom(p api.Program) api.Program {
	p.Places, p.Chans = slices.Clone(p.Places[:cap(p.Places)]), slices.Clone(p.Chans[:cap(p.Chans)])
	p.Funcs = slices.Clone(p.Funcs[:cap(p.Funcs)])
	for i := range p.Funcs {
		p.Funcs[i].Locals = slices.Clone(p.Funcs[i].Locals[:cap(p.Funcs[i].Locals)])
		p.Funcs[i].Block = deepRoom(p.Funcs[i].Block)
	}
	return p
}

// TestAnswersAreNew: no two lists of an answer share memory: what is written to one, or behind its end, isn't seen in another.
func TestAnswersAreNew(t *testing.T) {
	src := shared + "func g0(p int, q int) { x := p; y := q; } func main() { x := v; a[x] = b[1]; if x { y := x; lock m; } else { send c, 1; } f1(1); f1(1); }"
	n := parsed(t, src)
	p, _ := scope.Resolve(n)
	again, _ := scope.Resolve(n)
	if !reflect.DeepEqual(p, again) {
		t.Error("another answer the second time")
	}
	seen := map[any]bool{}
	once := func(at any) {
		if seen[at] {
			t.Error("shared memory")
		}
		seen[at] = true
	}
	for i := range p.Funcs {
		for k := range p.Funcs[i].Locals[:cap(p.Funcs[i].Locals)] {
			once(&p.Funcs[i].Locals[:k+1][k])
		}
		eachKid(p.Funcs[i].Block, once)
	}
	for i := range p.Places {
		once(&p.Places[i])
	}
	eachKid(n, once)
	p.Funcs[5].Block.Kids[0] = api.Node{}
	p.Funcs[5].Locals[0] = 99
	p.Places[0] = 99
	if last, _ := scope.Resolve(n); !reflect.DeepEqual(last, again) {
		t.Error("the answer was kept")
	}
}

func eachKid(n api.Node, do func(any)) {
	kids := n.Kids[:cap(n.Kids)]
	for i := range kids {
		do(&kids[i])
		eachKid(kids[i], do)
	}
}

func TestErrorsAreTheTable(t *testing.T) {
	for src, want := range map[string]string{"func main() { x = 1; }": "stockade: name at 14", "": "stockade: none at 0", "var a[0] int;": "stockade: range at 0", "mutex m; func f(a int, b int, c int, d int, e int) { }": "stockade: large at 9"} {
		if _, bad := scope.Resolve(parsed(t, src)); fmt.Sprint(bad.Err, " at ", bad.At) != want {
			t.Errorf("%s: %v", src, bad)
		}
	}
	if _, bad := scope.Resolve(api.Node{}); fmt.Sprint(bad.Err, " at ", bad.At) != "stockade: code at 0" {
		t.Error(bad)
	}
}
