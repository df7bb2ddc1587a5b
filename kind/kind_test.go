package kind_test

import (
	"fmt"
	"reflect"
	"slices"
	"strings"
	"testing"

	"stockade/api"
	"stockade/kind"
	"stockade/scope"
	"stockade/tree"
)

// The tests of P9.1 on texts: which types the parts of ordinary programs get, and with which error at which byte others are refused.

// tell is a value's beginning, since programs may be great.
func tell(v any) string {
	text := fmt.Sprintf("%+v", v)
	return text[:min(len(text), 400)]
}

func resolved(t *testing.T, src string) api.Program {
	t.Helper()
	n, bad := tree.Parse(src)
	if bad.Err != nil {
		t.Fatalf("Parse(%s): %v", tell(src), bad)
	}
	p, bad := scope.Resolve(n)
	if bad.Err != nil {
		t.Fatalf("Resolve(%s): %v", tell(src), bad)
	}
	return p
}

// built is a text's program. That it is typed, and that Check answers it again, is asked of each one (P9.2).
func built(t *testing.T, src string) api.Program {
	t.Helper()
	p, bad := kind.Build(src)
	if bad != (api.Bad{}) {
		t.Fatalf("Build(%s): %v", tell(src), bad)
	}
	if q, bad := kind.Check(resolved(t, src)); bad != (api.Bad{}) || !reflect.DeepEqual(p, q) {
		t.Errorf("Check(%s): %s, %v", tell(src), tell(q), bad)
	}
	wantTyped(t, p)
	return p
}

func wantTyped(t *testing.T, p api.Program) {
	t.Helper()
	if err := kind.Typed(p); err != nil {
		t.Errorf("Typed(%s): %v", tell(p), err)
	}
	if q, bad := kind.Check(p); bad != (api.Bad{}) || !reflect.DeepEqual(q, p) {
		t.Errorf("Check(%s): %s, %v", tell(p), tell(q), bad)
	}
}

// refused asks that Check and Typed refuse a program.
func refused(t *testing.T, p api.Program, want api.Bad) {
	t.Helper()
	if q, bad := kind.Check(p); bad != want || !reflect.DeepEqual(q, api.Program{}) {
		t.Errorf("Check(%s): %s, %v, want %v", tell(p), tell(q), bad, want)
	}
	if err := kind.Typed(p); err != api.ErrCode {
		t.Errorf("Typed(%s): %v", tell(p), err)
	}
}

// marked is a text without its "$", and the byte behind that; 0, if it has none.
func marked(src string) (string, int) {
	return strings.Replace(src, "$", "", 1), max(0, strings.Index(src, "$"))
}

// wantBuildBad asks for the error of a text, at the byte behind the "$".
func wantBuildBad(t *testing.T, src string, err error) {
	t.Helper()
	text, at := marked(src)
	if p, bad := kind.Build(text); bad != (api.Bad{Err: err, At: at}) || !reflect.DeepEqual(p, api.Program{}) {
		t.Errorf("Build(%s): %s, %v, want %v at %d", tell(src), tell(p), bad, err, at)
	}
}

// wantBad asks for an ErrType of a text.
func wantBad(t *testing.T, src string) {
	t.Helper()
	wantBuildBad(t, src, api.ErrType)
	text, at := marked(src)
	refused(t, resolved(t, text), api.Bad{Err: api.ErrType, At: at})
}

// shared declares a variable, an array, a channel and a function of each type, and other objects. Functions are used ahead of their declaration, as these stand behind.
const shared = "var i int; var f float; var b bool; var ai[2] int; var af[3] float; var ab[4] bool; mutex m; atomic k; chan ci[0] int; chan cf[1] float; chan cb[2] bool; "

const behind = " func fi(p int) { } func ff(p float) { } func fb(p bool) { } func two(p int, q bool) { } func none() { } func four(p int, q float, r bool, s int) { }"

// inMain is a program whose main does so.
func inMain(stmts string) string {
	return shared + "func main() { " + stmts + " }" + behind
}

// inFunc is one whose function with parameters does so.
func inFunc(stmts string) string {
	return shared + "func main() { } func g(pi int, pf float, pb bool) { " + stmts + " }" + behind
}

func TestExamples(t *testing.T) {
	wantBad(t, "var x int; func main() { $x = true; }")
	wantBad(t, "var x int; func main() { x = $1 + true; }")
	if p := built(t, "func main() { v := 1 < 2; }"); !slices.Equal(p.Funcs[0].Locals, []int{api.TBool}) {
		t.Error(p)
	}
}

// TestWholeProgram: each type of a program with all that there is.
func TestWholeProgram(t *testing.T) {
	const i, f, b = api.TInt, api.TFloat, api.TBool
	p := built(t, "var x int; func main() { y := -x < 2; a[x] = !y; go g(1, z); } var a[2] bool; func g(p int, q float) { if a[p] { q = float(p); } else { lock m; } recv c, z; send c, #0000000000000001; u := 1; w := p % u; } mutex m; chan c[1] float; var z float;")
	want := api.Program{
		Places: []int{i, b, b, f}, Mutexes: 1, Chans: []api.Chan{{Type: f, Room: 1}}, Main: 0,
		Funcs: []api.Func{
			{Name: "main", Locals: []int{b}, Block: api.Node{Kind: api.KBlock, At: 23, Kids: []api.Node{
				{Kind: api.KLet, At: 25, Name: "y", N: 0, Kids: []api.Node{
					{Kind: api.KBinary, At: 30, Name: "<", Type: b, Kids: []api.Node{
						{Kind: api.KUnary, At: 30, Name: "-", Type: i, Kids: []api.Node{{Kind: api.KPlace, At: 31, Type: i, N: 0}}},
						{Kind: api.KInt, At: 35, Type: i, N: 2}}}}},
				{Kind: api.KSet, At: 38, Kids: []api.Node{
					{Kind: api.KElem, At: 38, Type: b, N: 1, Size: 2, Kids: []api.Node{{Kind: api.KPlace, At: 40, Type: i, N: 0}}},
					{Kind: api.KUnary, At: 45, Name: "!", Type: b, Kids: []api.Node{{Kind: api.KLocal, At: 46, Type: b, N: 0}}}}},
				{Kind: api.KGo, At: 49, Name: "g", Obj: 1, Kids: []api.Node{{Kind: api.KInt, At: 54, Type: i, N: 1}, {Kind: api.KPlace, At: 57, Type: f, N: 3}}},
			}}},
			{Name: "g", Params: 2, Locals: []int{i, f, i, i}, Block: api.Node{Kind: api.KBlock, At: 101, Kids: []api.Node{
				{Kind: api.KIf, At: 103, Kids: []api.Node{
					{Kind: api.KElem, At: 106, Type: b, N: 1, Size: 2, Kids: []api.Node{{Kind: api.KLocal, At: 108, Type: i, N: 0}}},
					{Kind: api.KBlock, At: 111, Kids: []api.Node{{Kind: api.KSet, At: 113, Kids: []api.Node{
						{Kind: api.KLocal, At: 113, Type: f, N: 1},
						{Kind: api.KUnary, At: 117, Name: "float", Type: f, Kids: []api.Node{{Kind: api.KLocal, At: 123, Type: i, N: 0}}}}}}},
					{Kind: api.KBlock, At: 134, Kids: []api.Node{{Kind: api.KLock, At: 136, Name: "m", Obj: 0}}}}},
				{Kind: api.KRecv, At: 146, Name: "c", Kids: []api.Node{{Kind: api.KPlace, At: 154, Type: f, N: 3}}},
				{Kind: api.KSend, At: 157, Name: "c", Kids: []api.Node{{Kind: api.KFloat, At: 165, Type: f, Bits: 1}}},
				{Kind: api.KLet, At: 184, Name: "u", N: 2, Kids: []api.Node{{Kind: api.KInt, At: 189, Type: i, N: 1}}},
				{Kind: api.KLet, At: 192, Name: "w", N: 3, Kids: []api.Node{
					{Kind: api.KBinary, At: 197, Name: "%", Type: i, Kids: []api.Node{{Kind: api.KLocal, At: 197, Type: i, N: 0}, {Kind: api.KLocal, At: 201, Type: i, N: 2}}}}},
			}}},
		},
	}
	if !reflect.DeepEqual(p, want) {
		t.Errorf("%+v, want %+v", p, want)
	}
}

// operators is what the chapter says of operators, each with its kids' types and its own.
const operators = `
- int: int | - float: float | ! bool: bool | int float: int | float int: float
+ int int: int | - int int: int | * int int: int | / int int: int | % int int: int
+ float float: float | - float float: float | * float float: float | / float float: float
< int int: bool | <= int int: bool | > int int: bool | >= int int: bool | == int int: bool | != int int: bool
< float float: bool | <= float float: bool | > float float: bool | >= float float: bool | == float float: bool | != float float: bool
== bool bool: bool | != bool bool: bool | && bool bool: bool | || bool bool: bool
`

var typeNames = []string{"none", "int", "float", "bool"}

// table is the type of each use of an operator; "" if there is none.
var table = func() map[string]string {
	uses := map[string]string{}
	for _, line := range strings.Split(strings.TrimSpace(operators), "\n") {
		for _, row := range strings.Split(line, " | ") {
			with, own, _ := strings.Cut(row, ": ")
			uses[with] = own
		}
	}
	return uses
}()

var (
	unaries  = []string{"-", "!", "int", "float"}
	binaries = []string{"+", "-", "*", "/", "%", "<", "<=", ">", ">=", "==", "!=", "&&", "||"}
)

// ofType is expressions of each type.
var ofType = map[string][]string{
	"int":   {"1", "i", "li", "pi", "ai[1]", "(i + 1)", "int(f)", "ai[ai[li]]"},
	"float": {"#3ff0000000000000", "f", "lf", "pf", "af[0]", "(f * f)", "float(i)", "af[i]"},
	"bool":  {"true", "false", "b", "lb", "pb", "ab[3]", "(b && true)", "!b"},
}

// TestTable: that the test's own table has each operator.
func TestTable(t *testing.T) {
	if len(table) != 30 || table["- float"] != "float" || table["!= bool bool"] != "bool" || table["! int"] != "" {
		t.Errorf("%d, %v", len(table), table)
	}
}

// TestOperators: every operator with every two types of its kids, these being of all kinds.
func TestOperators(t *testing.T) {
	for left, lefts := range ofType {
		for i, text := range lefts {
			for _, op := range unaries {
				wantOwn(t, fmt.Sprintf("$%s(%s)", op, text), table[op+" "+left])
			}
			for right, rights := range ofType {
				for _, op := range binaries {
					wantOwn(t, fmt.Sprintf("%s %s %s", begun(text), op, rights[(i+3)%len(rights)]), table[op+" "+left+" "+right])
				}
			}
		}
	}
}

// begun is an expression with the "$" at its first token: a bracket is none.
func begun(text string) string {
	if inner, in := strings.CutPrefix(text, "("); in {
		return "($" + inner
	}
	return "$" + text
}

// wantOwn asks for the type of an expression, and of the local that gets it; an ErrType at the "$", if that is "".
func wantOwn(t *testing.T, text, want string) {
	t.Helper()
	src := inFunc("li := 1; lf := #0000000000000000; lb := true; v := " + text + ";")
	if want == "" {
		wantBad(t, src)
		return
	}
	src, _ = marked(src)
	f := built(t, src).Funcs[1]
	if got := f.Locals[6]; typeNames[got] != want || f.Block.Kids[3].Kids[0].Type != got {
		t.Errorf("%s: %d, want %s", text, got, want)
	}
}

// TestExpressions: the type of each expression that is no operator, and of some in one another.
func TestExpressions(t *testing.T) {
	for want, texts := range ofType {
		for _, text := range texts {
			wantOwn(t, "$"+text, want)
		}
	}
	for text, want := range map[string]string{
		"i + ai[i] * 2 < int(f) && !(pb || b) == lb": "bool",
		"-(-(i)) % -1":                  "int",
		"float(int(float(i))) / -f":     "float",
		"(1 < 2) == (f < f)":            "bool",
		"ab[ai[int(af[i % 3])]]":        "bool",
		"li + (pi - (i * (ai[0] / 1)))": "int",
	} {
		wantOwn(t, text, want)
	}
	for _, text := range []string{
		"i + ($f + 1) * true", "i + $f * 1 + (2 < true)", "i + $1 % f + b", "$i + f + 1 + f", "$1 + ab[i]", "(1 == 1) == ($1 == true)", "$#0000000000000000 % f",
		"1 < 2 && !$-b", "-$!i", "$!-i", "$!1 == true", "int(float($int(i)))", "$int(1)", "$int(true)", "$float(f)", "$float(false)",
		"ai[$!i] + true", "1 + $ai[b]", "1 + $ai[f]", "1 + $ai[af[i]]", "1 + ai[$af[b]]", "1 + ai[$ab[#0000000000000001]]", "$ab[true]", "$ab[f]", "1 < $ab[ab[0]]",
	} {
		wantOwn(t, text, "")
	}
}

// settable is what can be set, of each type.
var settable = map[string][]string{
	"int":   {"i", "li", "pi", "ai[1]", "ai[ai[li]]"},
	"float": {"f", "lf", "pf", "af[0]", "af[i]"},
	"bool":  {"b", "lb", "pb", "ab[3]", "ab[int(f)]"},
}

// wantForms asks for each statement with a part of each type: it is fine with just one of them. The part stands for the "%", or for the "^", at which the error then is.
func wantForms(t *testing.T, forms, parts map[string][]string) {
	t.Helper()
	for wanted, list := range forms {
		for _, form := range list {
			for own, texts := range parts {
				for _, text := range texts {
					stmt := strings.NewReplacer("%", text, "^", begun(text)).Replace(form)
					src := inFunc("li := 1; lf := #0000000000000000; lb := true; " + stmt + " li = 2;")
					if own != wanted {
						wantBad(t, src)
						continue
					}
					src, _ = marked(src)
					built(t, src)
				}
			}
		}
	}
}

// TestStatements: each kind of statement with each type of what it asks a type of.
func TestStatements(t *testing.T) {
	wantForms(t, map[string][]string{
		"int": {"$i = %;", "$ai[1] = %;", "$li = %;", "$pi = %;", "send ci, ^;", "add k, ^;", "put k, ^;", "fail ^;",
			"fi(^);", "go fi(^);", "two(^, b);", "go two(^, true);", "four(^, f, b, i);", "go four(1, f, b, ^);", "if b { while b { send ci, ^; } }", "if b { } else { fail ^; }"},
		"float": {"$f = %;", "$af[i] = %;", "$lf = %;", "$pf = %;", "send cf, ^;", "ff(^);", "go ff(^);", "four(1, ^, b, i);", "while true { $f = %; }"},
		"bool": {"$b = %;", "$ab[0] = %;", "$lb = %;", "$pb = %;", "send cb, ^;", "fb(^);", "go fb(^);", "two(i, ^);", "go two(1, ^);", "four(1, f, ^, i);",
			"if ^ { }", "if ^ { } else { i = 1; }", "while ^ { i = 1; }", "if b { if ^ { } }"},
	}, ofType)
	wantForms(t, map[string][]string{
		"int":   {"$% = 1;", "$% = ai[1];", "recv ci, ^;", "get k, ^;", "while b { get k, ^; }"},
		"float": {"$% = f;", "$% = float(i) + f;", "recv cf, ^;"},
		"bool":  {"$% = true;", "$% = i < i;", "recv cb, ^;"},
	}, settable)
}

// TestNoTypeAsked: statements that ask for no type.
func TestNoTypeAsked(t *testing.T) {
	built(t, inMain("lock m; unlock m; return; none(); go none(); x := 1; y := f; z := b; if x < 1 { lock m; }"))
	built(t, inFunc("main(); go main(); return; return;"))
	built(t, "func main() { }")
	built(t, "var x int; func main() { } func f(p bool, q float) { }")
}

// TestArguments: as many as there are parameters, which is asked ahead of them.
func TestArguments(t *testing.T) {
	for name, fine := range map[string][]string{"none": {}, "fi": {"1"}, "two": {"i", "b"}, "four": {"1", "f", "true", "ai[0]"}, "main": {}, "g": {"pi", "pf", "pb"}} {
		for many := range 7 {
			for _, what := range []string{"", "go "} {
				args := slices.Concat(fine, slices.Repeat([]string{"1"}, 7))[:many]
				src := inFunc("$" + what + name + "(" + strings.Join(args, ", ") + ");")
				if many == len(fine) {
					src, _ = marked(src)
					built(t, src)
					continue
				}
				wantBad(t, src)
				for i := range args {
					args[i] = "1 + true"
				}
				wantBad(t, inFunc("$"+what+name+"("+strings.Join(args, ", ")+");"))
			}
		}
	}
}

// TestFunctionsInOneAnother: functions that are used ahead of their declaration, by themselves, and by each other.
func TestFunctionsInOneAnother(t *testing.T) {
	built(t, "func main() { x := 1; f(x, x < 2); } func f(p int, q bool) { if q { g(float(p)); } f(p, q); } func g(r float) { go f(int(r), r < r); main(); }")
	wantBad(t, "func main() { f($true); } func f(p int) { }")
	wantBad(t, "func f(p int) { } func main() { f($true); }")
	wantBad(t, "func main() { f(1); } func f(p int) { f($p < 1); }")
	wantBad(t, "func main() { x := true; $f(); } func f(x int) { y := x; }")
	wantBad(t, "func f(x int) { y := x; } func main() { x := true; f($x); }")
	wantBad(t, "func f(x int) { y := x; } func main() { x := true; $f(1, x); }")
}

// TestLocals: what types they get; each function's are its own.
func TestLocals(t *testing.T) {
	for src, want := range map[string][]int{
		"":                       {1, 2, 3},
		"x := 1;":                {1, 2, 3, 1},
		"x := pf; y := x;":       {1, 2, 3, 2, 2},
		"x := pb; y := x == pb;": {1, 2, 3, 3, 3},
		"if pb { x := 1; } else { x := f; } x := b; y := x;":                {1, 2, 3, 1, 2, 3, 3},
		"while pb { x := 1; while x < 2 { y := f; x = int(y); } } y := pi;": {1, 2, 3, 1, 2, 1},
		"x := i < pi; if x { y := x || pb; z := float(pi); pf = z; }":       {1, 2, 3, 3, 3, 2},
	} {
		p := built(t, shared+"func main() { x := f; y := b; z := i; } func g(pi int, pf float, pb bool) { "+src+" } func h(x bool) { y := x; }")
		if !slices.Equal(p.Funcs[1].Locals, want) || !slices.Equal(p.Funcs[0].Locals, []int{2, 3, 1}) || !slices.Equal(p.Funcs[2].Locals, []int{3, 3}) {
			t.Errorf("%s: %v, want %v", src, p.Funcs, want)
		}
	}
	wantBad(t, inMain("x := 1; if b { y := x; } y := f; $y = 1;"))
	wantBad(t, inMain("x := 1; $x = b;"))
	wantBad(t, inMain("if b { x := 1; } else { x := f; $x = 1; }"))
	wantBad(t, inFunc("x := pb; pi = $pi + x;"))
}

// TestFirstOfSeveral: where several types are wrong, which one is told.
func TestFirstOfSeveral(t *testing.T) {
	for _, stmts := range []string{
		"i = $1 + true; b = 1;", "$i = b; b = 1;", "b = 1 < 2; $b = 1; i = b;", "ai[$!i] = 1 + true;", "$ai[b] = 1 + true;", "$ai[b] = true;", "i = ($1 + b) * (2 + b);", "i = -$!f;",
		"i = $1 + b + f;", "i = (1 + 2) * ($1 + f) * b;", "x := $1 + true; x = b;", "x := 1; $x = b; i = b;",
		"two($b, 1);", "two($b, 1 + true);", "two($1 + true, 1);", "two(1, $1 + true); i = b;", "$two(1 + true); i = b;", "$go two(1, b, 1 + true);", "go two($b, !1);", "four(1, $1 + b, i, b);", "four(1, $i, 1 + b, b);",
		"send ci, $1 + b; i = b;", "send ci, $b; i = b;", "recv ci, $b; i = b;", "recv ci, $ai[b]; i = b;", "recv ci, $ab[b];", "recv ci, ab[$1 + b];", "add k, $ab[b]; i = b;", "put k, $-b;", "get k, $ab[b];", "get k, $b; i = b;", "fail $1 + b; i = b;", "fail $b; i = b;",
		"if $1 { i = b; } else { b = 1; }", "if $1 + b { i = b; }", "if b { $i = b; } else { b = 1; }", "if b { } else { $b = 1; } i = b;", "while $1 { i = b; }", "while b { $i = b; } b = 1;", "while $-b { }",
	} {
		wantBad(t, shared+"func main() { "+stmts+" }"+behind+" func last() { i = b; }")
		wantBad(t, shared+"func main() { }"+behind+" func last() { "+stmts+" } func after() { i = b; }")
	}
}

// TestBuild: the errors of the layers below come first, each with its place.
func TestBuild(t *testing.T) {
	wrong := " func wrong() { x := 1 + true; }"
	wantBuildBad(t, "func main() { } func f() { $\x00 } "+wrong, api.ErrText)
	wantBuildBad(t, "$"+strings.Repeat(" ", api.MaxText)+" ", api.ErrLarge)
	wantBuildBad(t, "func main() { x := $99999999999999999999; }"+wrong, api.ErrRange)
	wantBuildBad(t, wrong+" func main() { x = $; }", api.ErrText)
	wantBuildBad(t, wrong+" func main() { $", api.ErrText)
	wantBuildBad(t, wrong+" func main() { x := "+strings.Repeat("-", 15)+"$-1; }", api.ErrDepth)
	wantBuildBad(t, "", api.ErrNone)
	wantBuildBad(t, wrong, api.ErrNone)
	wantBuildBad(t, wrong+" func main() { $y = 1; }", api.ErrName)
	wantBuildBad(t, wrong+" func main() { } $mutex main;", api.ErrName)
	wantBuildBad(t, wrong+" func main() { } $var a[0] int;", api.ErrRange)
	wantBuildBad(t, wrong+" func main() { } $func f(a int, b int, c int, d int, e int) { }", api.ErrLarge)
	wantBuildBad(t, " func wrong() { x := $1 + true; } func main() { }", api.ErrType)
	for _, src := range []string{"var", "\xff", "func main() { x := 1; x := 2; }", "func main( { }"} {
		n, bad := tree.Parse(src)
		if bad.Err == nil {
			_, bad = scope.Resolve(n)
		}
		if _, got := kind.Build(src); got != bad || bad.Err == nil {
			t.Errorf("%q: %v, want %v", src, got, bad)
		}
	}
}

// TestErrorsAreTheTable: by their texts.
func TestErrorsAreTheTable(t *testing.T) {
	if _, bad := kind.Build("func main() { x := !1; }"); fmt.Sprint(bad.Err, " at ", bad.At) != "stockade: type at 19" {
		t.Error(bad)
	}
	if _, bad := kind.Check(api.Program{}); fmt.Sprint(bad.Err, " at ", bad.At) != "stockade: code at 0" {
		t.Error(bad)
	}
	if err := kind.Typed(api.Program{}); fmt.Sprint(err) != "stockade: code" {
		t.Error(err)
	}
}
