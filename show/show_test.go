package show_test

import (
	"fmt"
	"math"
	"reflect"
	"slices"
	"strings"
	"testing"

	"stockade/api"
	"stockade/show"
	"stockade/tree"
)

// The tests of P7.1 by tables: ordinary trees, edges, and wrong ones.

func node(kind int, name string, kids ...api.Node) api.Node {
	return api.Node{Kind: kind, Name: name, Kids: kids}
}

func program(decls ...api.Node) api.Node {
	return node(api.KProgram, "", decls...)
}

func block(stmts ...api.Node) api.Node {
	return node(api.KBlock, "", stmts...)
}

func param(name string, typ int) api.Node {
	return api.Node{Kind: api.KParam, Name: name, Type: typ}
}

func function(name string, body api.Node, params ...api.Node) api.Node {
	n := node(api.KFunc, name, append(slices.Clone(params), body)...)
	n.N = len(params)
	return n
}

func number(n int) api.Node {
	return api.Node{Kind: api.KInt, N: n}
}

func float(bits uint64) api.Node {
	return api.Node{Kind: api.KFloat, Bits: bits}
}

func truth(n int) api.Node {
	return api.Node{Kind: api.KBool, N: n}
}

func name(text string) api.Node {
	return node(api.KName, text)
}

func index(text string, at api.Node) api.Node {
	return node(api.KIndex, text, at)
}

func unary(operator string, kid api.Node) api.Node {
	return node(api.KUnary, operator, kid)
}

func binary(operator string, left, right api.Node) api.Node {
	return node(api.KBinary, operator, left, right)
}

// tell is a value's beginning, since trees may be great.
func tell(v any) string {
	text := fmt.Sprintf("%+v", v)
	return text[:min(len(text), 300)]
}

func wantExpr(t *testing.T, n api.Node, want string) {
	t.Helper()
	if got, err := show.Expr(n); got != want || err != nil {
		t.Errorf("Expr(%s): %s, %v, want %s", tell(n), tell(got), err, tell(want))
	}
}

func wantText(t *testing.T, n api.Node, want string) {
	t.Helper()
	if got, err := show.Text(n); got != want || err != nil {
		t.Errorf("Text(%s): %s, %v, want %s", tell(n), tell(got), err, tell(want))
	}
	if err := show.Check(n); err != nil {
		t.Errorf("Check(%s): %v, want none", tell(n), err)
	}
}

func wantNoProgram(t *testing.T, n api.Node) {
	t.Helper()
	if got, err := show.Text(n); got != "" || err != api.ErrCode {
		t.Errorf("Text(%s): %s, %v, want %v", tell(n), tell(got), err, api.ErrCode)
	}
	if err := show.Check(n); err != api.ErrCode {
		t.Errorf("Check(%s): %v, want %v", tell(n), err, api.ErrCode)
	}
}

func wantNoExpr(t *testing.T, n api.Node) {
	t.Helper()
	if got, err := show.Expr(n); got != "" || err != api.ErrCode {
		t.Errorf("Expr(%s): %s, %v, want %v", tell(n), tell(got), err, api.ErrCode)
	}
}

func TestPrimaries(t *testing.T) {
	for want, n := range map[string]api.Node{
		"0":                         number(0),
		"7":                         number(7),
		"9223372036854775807":       number(math.MaxInt),
		"#0000000000000000":         float(0),
		"#0000000000000001":         float(1),
		"#00000000000000ab":         float(0xab),
		"#0fffffffffffffff":         float(1<<60 - 1),
		"#3ff0000000000000":         float(math.Float64bits(1)),
		"#7ff8000000000001":         float(0x7ff8000000000001),
		"#8000000000000000":         float(1 << 63),
		"#fedcba9876543210":         float(0xfedcba9876543210),
		"#ffffffffffffffff":         float(math.MaxUint64),
		"true":                      truth(1),
		"false":                     truth(0),
		"x":                         name("x"),
		"_":                         name("_"),
		"_0aZ9":                     name("_0aZ9"),
		"Int":                       name("Int"),
		"a[0]":                      index("a", number(0)),
		"a[b[c + 1]]":               index("a", index("b", binary("+", name("c"), number(1)))),
		"int(x)":                    unary("int", name("x")),
		"float(1)":                  unary("float", number(1)),
		"int(float(-1))":            unary("int", unary("float", unary("-", number(1)))),
		"int(1 + 2)":                unary("int", binary("+", number(1), number(2))),
		"-x":                        unary("-", name("x")),
		"!x":                        unary("!", name("x")),
		"--1":                       unary("-", unary("-", number(1))),
		"!!-x":                      unary("!", unary("!", unary("-", name("x")))),
		"-a[1]":                     unary("-", index("a", number(1))),
		"-int(x)":                   unary("-", unary("int", name("x"))),
		"-(1 * 2)":                  unary("-", binary("*", number(1), number(2))),
		"!(1 < 2)":                  unary("!", binary("<", number(1), number(2))),
		"--(1 || 2)":                unary("-", unary("-", binary("||", number(1), number(2)))),
		"-9223372036854775807 - -1": binary("-", unary("-", number(math.MaxInt)), unary("-", number(1))),
	} {
		wantExpr(t, n, want)
	}
}

// ranks has the operators of two, the loosest first.
var ranks = [][]string{{"||"}, {"&&"}, {"==", "!=", "<", "<=", ">", ">="}, {"+", "-"}, {"*", "/", "%"}}

// TestRanks puts each operator to the left and to the right of each other one, and below both signs.
func TestRanks(t *testing.T) {
	x, y, z := name("x"), name("y"), name("z")
	for outer, outers := range ranks {
		for _, o := range outers {
			wantExpr(t, binary(o, x, y), "x "+o+" y")
			wantExpr(t, unary("-", binary(o, x, y)), "-(x "+o+" y)")
			wantExpr(t, unary("!", binary(o, x, y)), "!(x "+o+" y)")
			wantExpr(t, binary(o, unary("-", x), unary("!", y)), "-x "+o+" !y")
			for inner, inners := range ranks {
				for _, i := range inners {
					left, right := "x "+i+" y "+o+" z", "x "+o+" y "+i+" z"
					if inner < outer || inner == outer && outer == 2 {
						left = "(x " + i + " y) " + o + " z"
					}
					if inner <= outer {
						right = "x " + o + " (y " + i + " z)"
					}
					wantExpr(t, binary(o, binary(i, x, y), z), left)
					wantExpr(t, binary(o, x, binary(i, y, z)), right)
				}
			}
		}
	}
}

func TestBracketsOfExamples(t *testing.T) {
	for src, want := range map[string]string{
		"(1+2)*3":                 "(1 + 2) * 3",
		"1-(2-3)":                 "1 - (2 - 3)",
		"(1*2)+3":                 "1 * 2 + 3",
		"(1-2)-3":                 "1 - 2 - 3",
		"((((1))))":               "1",
		"(1<2)==(3<4)":            "(1 < 2) == (3 < 4)",
		"(1<2)&&(3<4)||(x)":       "1 < 2 && 3 < 4 || x",
		"x||(y||z)":               "x || (y || z)",
		"(x||y)||z":               "x || y || z",
		"a[(1+2)]*(-(3))":         "a[1 + 2] * -3",
		"-(-(1))":                 "--1",
		"int((1))+float(((2*3)))": "int(1) + float(2 * 3)",
		"1*(2/3)%(4)":             "1 * (2 / 3) % 4",
		"!(!(x==y))":              "!!(x == y)",
	} {
		n, bad := tree.Expr(src)
		if bad.Err != nil {
			t.Fatal(src, bad)
		}
		wantExpr(t, n, want)
	}
}

func TestDeclarations(t *testing.T) {
	wantText(t, program(), "")
	wantText(t, api.Node{Kind: api.KProgram, Kids: []api.Node{}}, "")
	for want, n := range map[string]api.Node{
		"var x int;\n":                        {Kind: api.KVar, Name: "x", Type: api.TInt},
		"var x float;\n":                      {Kind: api.KVar, Name: "x", Type: api.TFloat},
		"var x bool;\n":                       {Kind: api.KVar, Name: "x", Type: api.TBool},
		"var a[3] int;\n":                     {Kind: api.KArray, Name: "a", Type: api.TInt, N: 3},
		"var a[0] bool;\n":                    {Kind: api.KArray, Name: "a", Type: api.TBool},
		"var a[9223372036854775807] int;\n":   {Kind: api.KArray, Name: "a", Type: api.TInt, N: math.MaxInt},
		"mutex m;\n":                          {Kind: api.KMutex, Name: "m"},
		"chan c[2] int;\n":                    {Kind: api.KChan, Name: "c", Type: api.TInt, N: 2},
		"chan c[0] float;\n":                  {Kind: api.KChan, Name: "c", Type: api.TFloat},
		"chan c[9223372036854775807] bool;\n": {Kind: api.KChan, Name: "c", Type: api.TBool, N: math.MaxInt},
		"atomic k;\n":                         {Kind: api.KAtomic, Name: "k"},
		"func f() {\n}\n":                     function("f", block()),
		"func f(p int) {\n}\n":                function("f", block(), param("p", api.TInt)),
		"func f(p int, q float) {\n}\n":       function("f", block(), param("p", api.TInt), param("q", api.TFloat)),
		"func f(p bool, p bool, p bool, p bool, p bool, p bool) {\n}\n": function("f", block(), slices.Repeat([]api.Node{param("p", api.TBool)}, 6)...),
	} {
		wantText(t, program(n), want)
		wantText(t, program(n, n), want+want)
	}
}

func TestStatements(t *testing.T) {
	x, one, e := name("x"), number(1), binary("<", name("y"), number(2))
	for want, n := range map[string]api.Node{
		"x := 1;":                 node(api.KLet, "x", one),
		"x := y < 2;":             node(api.KLet, "x", e),
		"x = 1;":                  node(api.KSet, "", x, one),
		"a[y < 2] = y < 2;":       node(api.KSet, "", index("a", e), e),
		"f();":                    node(api.KCall, "f"),
		"f(1);":                   node(api.KCall, "f", one),
		"f(1, y < 2, x);":         node(api.KCall, "f", one, e, x),
		"go f();":                 node(api.KGo, "f"),
		"go f(1);":                node(api.KGo, "f", one),
		"go f(y < 2, 1, 1);":      node(api.KGo, "f", e, one, one),
		"lock m;":                 node(api.KLock, "m"),
		"unlock m;":               node(api.KUnlock, "m"),
		"send c, y < 2;":          node(api.KSend, "c", e),
		"recv c, x;":              node(api.KRecv, "c", x),
		"recv c, a[1];":           node(api.KRecv, "c", index("a", one)),
		"add k, y < 2;":           node(api.KAdd, "k", e),
		"put k, 1;":               node(api.KPut, "k", one),
		"get k, x;":               node(api.KGet, "k", x),
		"get k, a[y < 2];":        node(api.KGet, "k", index("a", e)),
		"return;":                 node(api.KReturn, ""),
		"fail y < 2;":             node(api.KFail, "", e),
		"if y < 2 {\n\t}":         node(api.KIf, "", e, block()),
		"while true {\n\t}":       node(api.KWhile, "", truth(1), block()),
		"if x {\n\t} else {\n\t}": node(api.KIf, "", x, block(), block()),
	} {
		wantText(t, program(function("f", block(n))), "func f() {\n\t"+want+"\n}\n")
		wantText(t, program(function("f", block(n, n))), "func f() {\n\t"+want+"\n\t"+want+"\n}\n")
	}
}

func TestBlocksInOneAnother(t *testing.T) {
	x, stop := name("x"), node(api.KReturn, "")
	inner := node(api.KIf, "", x, block(stop, stop), block(node(api.KWhile, "", x, block(stop)), stop))
	n := program(
		api.Node{Kind: api.KVar, Name: "x", Type: api.TBool},
		function("main", block(stop, inner, node(api.KWhile, "", x, block(inner)))),
		node(api.KMutex, "m"))
	wantText(t, n, `var x bool;
func main() {
	return;
	if x {
		return;
		return;
	} else {
		while x {
			return;
		}
		return;
	}
	while x {
		if x {
			return;
			return;
		} else {
			while x {
				return;
			}
			return;
		}
	}
}
mutex m;
`)
}

func TestCleanTexts(t *testing.T) {
	for src, want := range map[string]string{
		"":             "",
		" \n// none\n": "",
		"var x int;func main(){if x==1{x=2;}else{fail 3;}}":     "var x int;\nfunc main() {\n\tif x == 1 {\n\t\tx = 2;\n\t} else {\n\t\tfail 3;\n\t}\n}\n",
		"mutex\r\n\tm ; // the lock\natomic k;chan c [ 2 ]int;": "mutex m;\natomic k;\nchan c[2] int;\n",
		"func f ( a int,b bool ) { go f ( (a) , !(b) ) ; }":     "func f(a int, b bool) {\n\tgo f(a, !b);\n}\n",
	} {
		if got, bad := show.Clean(src); got != want || bad != (api.Bad{}) {
			t.Errorf("Clean(%q): %q, %v, want %q", src, got, bad, want)
		}
	}
}

func TestCleanWrongTexts(t *testing.T) {
	for src, want := range map[string]api.Bad{
		"var":                              {Err: api.ErrText, At: 3},
		"var if int;":                      {Err: api.ErrText, At: 4},
		"1 + 2":                            {Err: api.ErrText, At: 0},
		"var a[01] int;":                   {Err: api.ErrText, At: 7},
		"mutex m; var $":                   {Err: api.ErrText, At: 13},
		"var a[9999999999999999999] int;":  {Err: api.ErrRange, At: 6},
		"mutex aaaaaaaaaaaaaaaaaaaaaaaaa;": {Err: api.ErrLarge, At: 6},
		strings.Repeat(" ", api.MaxText+1): {Err: api.ErrLarge, At: 0},
		"func f(){x:=" + strings.Repeat("(", 16) + "1": {Err: api.ErrDepth, At: 27},
	} {
		if got, bad := show.Clean(src); got != "" || bad != want {
			t.Errorf("Clean(%q): %q, %v, want %v", src, got, bad, want)
		}
		if _, bad := tree.Parse(src); bad != want {
			t.Errorf("Parse(%q): %v, want %v", src, bad, want)
		}
	}
}

// TestGreatTrees: limits and levels are layer 6's, not those of a tree's text.
func TestGreatTrees(t *testing.T) {
	stop := node(api.KReturn, "")
	wide := block(slices.Repeat([]api.Node{stop}, 9990)...)
	wantText(t, program(function("f", wide)), "func f() {\n"+strings.Repeat("\treturn;\n", 9990)+"}\n")
	deep, text := number(1), "2 - 1"
	for range 990 {
		deep = binary("-", number(2), deep)
	}
	for range 989 {
		text = "2 - (" + text + ")"
	}
	wantExpr(t, deep, text)
	wantText(t, program(function("f", block(node(api.KFail, "", deep)))), "func f() {\n\tfail "+text+";\n}\n")
	blocks, lines := block(stop), strings.Repeat("\t", 401)+"return;\n"
	for i := range 400 {
		tabs := strings.Repeat("\t", 400-i)
		blocks, lines = block(node(api.KWhile, "", number(0), blocks)), tabs+"while 0 {\n"+lines+tabs+"}\n"
	}
	wantText(t, program(function("f", blocks)), "func f() {\n"+lines+"}\n")
}

// TestWhatIsHandedIn: a tree is neither changed nor kept, its lists' spare room included.
func TestWhatIsHandedIn(t *testing.T) {
	for _, n := range append(samples(), program(node(api.KMutex, "if")), block(node(api.KVar, "x"))) {
		before := roomy(n)
		copied := roomy(n)
		show.Check(copied)
		show.Text(copied)
		show.Expr(copied)
		if !reflect.DeepEqual(withRoom(copied), withRoom(before)) {
			t.Errorf("%s became %s", tell(before), tell(copied))
		}
	}
}

// roomy is a copy of a tree whose lists have spare room with a node in it.
func roomy(n api.Node) api.Node {
	kids := make([]api.Node, 0, len(n.Kids)+1)
	for _, kid := range n.Kids {
		kids = append(kids, roomy(kid))
	}
	n.Kids = append(kids, api.Node{Kind: api.KReturn, At: 77})[:len(kids)]
	return n
}

// withRoom is a tree with its lists' spare room.
func withRoom(n api.Node) api.Node {
	n.Kids = slices.Clone(n.Kids[:cap(n.Kids)])
	for i, kid := range n.Kids {
		if cap(kid.Kids) > 0 {
			n.Kids[i] = withRoom(kid)
		}
	}
	return n
}
