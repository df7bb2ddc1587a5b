package tree_test

import (
	"reflect"
	"strings"
	"testing"

	"stockade/api"
	"stockade/token"
	"stockade/tree"
)

// The tests of P6.1 by tables: ordinary texts, edges, and wrong ones.

func wantTree(t *testing.T, start, src string, want api.Node) {
	t.Helper()
	wantIs(t, src, start, want, api.Bad{})
}

func wantBad(t *testing.T, start, src string, err error, at int) {
	t.Helper()
	got, bad := read(src, start)
	if bad != (api.Bad{Err: err, At: at}) || !reflect.DeepEqual(got, api.Node{}) {
		t.Errorf("%s %q: %v, %v, want %v at %d", start, src, got, bad, err, at)
	}
}

// wantRight asks for a text that is right, whatever its tree is.
func wantRight(t *testing.T, start, src string) {
	t.Helper()
	if _, bad := read(src, start); bad != (api.Bad{}) {
		t.Errorf("%s %q: %v, want none", start, src, bad)
	}
}

func name(at int, text string, kids ...api.Node) api.Node {
	if len(kids) > 0 {
		return api.Node{Kind: api.KIndex, At: at, Name: text, Kids: kids}
	}
	return api.Node{Kind: api.KName, At: at, Name: text}
}

func number(at, n int) api.Node {
	return api.Node{Kind: api.KInt, At: at, N: n}
}

func unary(at int, operator string, kid api.Node) api.Node {
	return api.Node{Kind: api.KUnary, At: at, Name: operator, Kids: []api.Node{kid}}
}

func binary(at int, operator string, left, right api.Node) api.Node {
	return api.Node{Kind: api.KBinary, At: at, Name: operator, Kids: []api.Node{left, right}}
}

func block(at int, kids ...api.Node) api.Node {
	return api.Node{Kind: api.KBlock, At: at, Kids: kids}
}

func TestPrimaries(t *testing.T) {
	for src, want := range map[string]api.Node{
		"0":                   number(0, 0),
		"9223372036854775807": number(0, 1<<63-1),
		"#3ff0000000000000":   {Kind: api.KFloat, Bits: 0x3ff0000000000000},
		"#ffffffffffffffff":   {Kind: api.KFloat, Bits: 1<<64 - 1},
		"true":                {Kind: api.KBool, N: 1},
		"false":               {Kind: api.KBool},
		"x":                   name(0, "x"),
		"a[1]":                name(0, "a", number(2, 1)),
		"a[b[c]]":             name(0, "a", name(2, "b", name(4, "c"))),
		"int(x)":              unary(0, "int", name(4, "x")),
		"float ( 1 )":         unary(0, "float", number(8, 1)),
		"-x":                  unary(0, "-", name(1, "x")),
		"!x":                  unary(0, "!", name(1, "x")),
		"- -1":                unary(0, "-", unary(2, "-", number(3, 1))),
		"!-!x":                unary(0, "!", unary(1, "-", unary(2, "!", name(3, "x")))),
		"-a[1]":               unary(0, "-", name(1, "a", number(3, 1))),
		"(x)":                 name(1, "x"),
		" ( ( 1 ) ) ":         number(5, 1),
		"(-x)":                unary(1, "-", name(2, "x")),
		"-(x)":                unary(0, "-", name(2, "x")),
		"-int(x)":             unary(0, "-", unary(1, "int", name(5, "x"))),
	} {
		wantTree(t, "expr", src, want)
	}
}

// TestRanks: each operator by itself, and of each two which one binds more.
func TestRanks(t *testing.T) {
	ranks := []string{"||", "&&", "== != < <= > >=", "+ -", "* / %"}
	comparisons := 2
	for low, lows := range ranks {
		for _, a := range strings.Fields(lows) {
			wantTree(t, "expr", "x"+a+"y", binary(0, a, name(0, "x"), name(1+len(a), "y")))
			for high, highs := range ranks {
				for _, b := range strings.Fields(highs) {
					src := "x" + a + "y" + b + "z"
					x, y, z := name(0, "x"), name(1+len(a), "y"), name(2+len(a)+len(b), "z")
					switch {
					case low == comparisons && high == comparisons:
						wantBad(t, "expr", src, api.ErrText, 2+len(a))
					case low < high:
						wantTree(t, "expr", src, binary(0, a, x, binary(y.At, b, y, z)))
					default:
						wantTree(t, "expr", src, binary(0, b, binary(0, a, x, y), z))
					}
				}
			}
		}
	}
}

func TestGroups(t *testing.T) {
	a, b, c := name(0, "a"), name(2, "b"), name(4, "c")
	wantTree(t, "expr", "a-b-c", binary(0, "-", binary(0, "-", a, b), c))
	wantTree(t, "expr", "a-b+c-d", binary(0, "-", binary(0, "+", binary(0, "-", a, b), c), name(6, "d")))
	wantTree(t, "expr", "a-(b-c)", binary(0, "-", a, binary(3, "-", name(3, "b"), name(5, "c"))))
	wantTree(t, "expr", "(a+b)*c", binary(1, "*", binary(1, "+", name(1, "a"), name(3, "b")), name(6, "c")))
	wantTree(t, "expr", "((a)+b)", binary(2, "+", name(2, "a"), name(5, "b")))
	wantTree(t, "expr", "-a*b", binary(0, "*", unary(0, "-", name(1, "a")), name(3, "b")))
	wantTree(t, "expr", "-(a*b)", unary(0, "-", binary(2, "*", name(2, "a"), name(4, "b"))))
	wantTree(t, "expr", "a--b", binary(0, "-", a, unary(2, "-", name(3, "b"))))
	wantTree(t, "expr", "!a==b", binary(0, "==", unary(0, "!", name(1, "a")), name(4, "b")))
	wantTree(t, "expr", "(a<b)<c", binary(1, "<", binary(1, "<", name(1, "a"), name(3, "b")), name(6, "c")))
	wantTree(t, "expr", "a<b&&c<d", binary(0, "&&", binary(0, "<", a, b), binary(5, "<", name(5, "c"), name(7, "d"))))
}

// inMain is a statement as the one of a program's one function, and how far behind the text's beginning it stands.
func inMain(stmt string) (string, int) {
	return "func f(){" + stmt + "}", 9
}

func TestStatements(t *testing.T) {
	node := func(kind, at int, text string, kids ...api.Node) api.Node {
		return api.Node{Kind: kind, At: at, Name: text, Kids: kids}
	}
	for _, c := range []struct {
		stmt string
		want api.Node
	}{
		{"x:=1;", node(api.KLet, 9, "x", number(12, 1))},
		{"x=1;", node(api.KSet, 9, "", name(9, "x"), number(11, 1))},
		{"a[i]=1;", node(api.KSet, 9, "", name(9, "a", name(11, "i")), number(14, 1))},
		{" a[b[2]]=-1;", node(api.KSet, 10, "", name(10, "a", name(12, "b", number(14, 2))), unary(18, "-", number(19, 1)))},
		{"g();", node(api.KCall, 9, "g")},
		{"g(1);", node(api.KCall, 9, "g", number(11, 1))},
		{"g(1,(x),2);", node(api.KCall, 9, "g", number(11, 1), name(14, "x"), number(17, 2))},
		{"go g();", node(api.KGo, 9, "g")},
		{"go g(1,x);", node(api.KGo, 9, "g", number(14, 1), name(16, "x"))},
		{"lock m;", node(api.KLock, 9, "m")},
		{"unlock m;", node(api.KUnlock, 9, "m")},
		{"send c,1;", node(api.KSend, 9, "c", number(16, 1))},
		{"recv c,x;", node(api.KRecv, 9, "c", name(16, "x"))},
		{"recv c,a[1];", node(api.KRecv, 9, "c", name(16, "a", number(18, 1)))},
		{"add k,1;", node(api.KAdd, 9, "k", number(15, 1))},
		{"put k,1;", node(api.KPut, 9, "k", number(15, 1))},
		{"get k,x;", node(api.KGet, 9, "k", name(15, "x"))},
		{"get k,a[1];", node(api.KGet, 9, "k", name(15, "a", number(17, 1)))},
		{"if x{}", node(api.KIf, 9, "", name(12, "x"), block(13))},
		{"if x{}else{return;}", node(api.KIf, 9, "", name(12, "x"), block(13), block(19, node(api.KReturn, 20, "")))},
		{"if (x) {x=1;}", node(api.KIf, 9, "", name(13, "x"), block(16, node(api.KSet, 17, "", name(17, "x"), number(19, 1))))},
		{"while x{}", node(api.KWhile, 9, "", name(15, "x"), block(16))},
		{"return;", node(api.KReturn, 9, "")},
		{"fail 7;", node(api.KFail, 9, "", number(14, 7))},
	} {
		src, at := inMain(c.stmt)
		want := api.Node{Kind: api.KFunc, Name: "f", Kids: []api.Node{block(at-1, c.want)}}
		wantTree(t, "program", src, api.Node{Kind: api.KProgram, Kids: []api.Node{want}})
	}
}

func TestDeclarations(t *testing.T) {
	for src, want := range map[string]api.Node{
		"var x int;":        {Kind: api.KVar, Name: "x", Type: api.TInt},
		"var x float;":      {Kind: api.KVar, Name: "x", Type: api.TFloat},
		"var x bool;":       {Kind: api.KVar, Name: "x", Type: api.TBool},
		"var x[3] int;":     {Kind: api.KArray, Name: "x", Type: api.TInt, N: 3},
		"var x[0] bool;":    {Kind: api.KArray, Name: "x", Type: api.TBool},
		"mutex m;":          {Kind: api.KMutex, Name: "m"},
		"atomic k;":         {Kind: api.KAtomic, Name: "k"},
		"chan c[0] int;":    {Kind: api.KChan, Name: "c", Type: api.TInt},
		"chan c[99] float;": {Kind: api.KChan, Name: "c", Type: api.TFloat, N: 99},
		"func f() {}":       {Kind: api.KFunc, Name: "f", Kids: []api.Node{block(9)}},
		"func f(a int) {}": {Kind: api.KFunc, Name: "f", N: 1, Kids: []api.Node{
			{Kind: api.KParam, At: 7, Name: "a", Type: api.TInt}, block(14)}},
		"func f(a int,b float,a bool){}": {Kind: api.KFunc, Name: "f", N: 3, Kids: []api.Node{
			{Kind: api.KParam, At: 7, Name: "a", Type: api.TInt},
			{Kind: api.KParam, At: 13, Name: "b", Type: api.TFloat},
			{Kind: api.KParam, At: 21, Name: "a", Type: api.TBool},
			block(28)}},
	} {
		wantTree(t, "program", src, api.Node{Kind: api.KProgram, Kids: []api.Node{want}})
		twice := shifted(want, 2)
		second := shifted(want, len(src)+4)
		wantTree(t, "program", "\n\t"+src+"\r\n"+src, api.Node{Kind: api.KProgram, At: 2, Kids: []api.Node{twice, second}})
	}
}

// shifted is a tree whose text begins further behind.
func shifted(n api.Node, by int) api.Node {
	n.At += by
	n.Kids = append([]api.Node(nil), n.Kids...)
	for i := range n.Kids {
		n.Kids[i] = shifted(n.Kids[i], by)
	}
	return n
}

func TestNoTokens(t *testing.T) {
	for _, src := range []string{"", " ", "\n\n", "// var x int;", " //\n\t", strings.Repeat(" ", api.MaxText)} {
		wantTree(t, "program", src, api.Node{Kind: api.KProgram, At: len(src)})
		wantBad(t, "expr", src, api.ErrText, len(src))
	}
}

// everything is a text that has each rule of the grammar.
const everything = `
var x int; var y[3] float; mutex m; chan c[2] bool; atomic k; // a comment
func f() { }
func g(a int, b float, d bool) {
	u := (1 + x) * -2 / y[x % 3]; x = int(b) - 1; y[0] = float(x);
	g(1, #3ff0000000000000, true); f(); go g(a, b, !d || d && x <= 1); go f();
	lock m; unlock m; send c, x == 1; recv c, d; recv c, y[1]; add k, 1; put k, 2; get k, x; get k, y[2];
	if x != 1 { return; } if x > 1 { } else { fail 3; } while x < 1 { if x >= 1 { x = 1; } else { } }
}
`

// TestCutShort: a text that ends too early is refused at its end.
func TestCutShort(t *testing.T) {
	tokens, _ := token.Tokens(everything)
	depth := 0
	for i, x := range tokens {
		if in(x, "{") {
			depth++
		}
		if in(x, "}") {
			depth--
		}
		for _, src := range []string{everything[:x.At+len(x.Text)], everything[:x.At+len(x.Text)] + " \n// }"} {
			if depth == 0 && in(x, "}") || i+1 < len(tokens) && in(tokens[i+1], "var", "mutex", "chan", "atomic", "func") {
				wantRight(t, "program", src)
			} else {
				wantBad(t, "program", src, api.ErrText, len(src))
			}
		}
	}
	wantModel(t, everything, "program")
}

// TestEachTokenChanged: in a right text each token is left out, put twice, or made another one.
func TestEachTokenChanged(t *testing.T) {
	t.Parallel()
	tokens, _ := token.Tokens(everything)
	others := []string{"", "x", "1", "#3ff0000000000000", "-", "(", ")", "{", "}", "[", "]", ",", ";", "=", ":=", "==", "if", "else", "int", "bool", "true", "var", "func", "go"}
	if testing.Short() {
		others = others[:8]
	}
	for _, x := range tokens {
		before, behind := everything[:x.At], everything[x.At+len(x.Text):]
		wantModel(t, before+x.Text+" "+x.Text+behind, "program")
		for _, other := range others {
			wantModel(t, before+" "+other+" "+behind, "program")
		}
	}
}

func TestWrong(t *testing.T) {
	for _, c := range []struct {
		start, src string
		at         int
	}{
		{"expr", "1<2<3", 3}, {"expr", "1==2!=3", 4}, {"expr", "1 2", 2}, {"expr", "x y", 2}, {"expr", "+1", 0}, {"expr", "1+", 2},
		{"expr", "1+*2", 2}, {"expr", "()", 1}, {"expr", "(1", 2}, {"expr", "1)", 1}, {"expr", "a[]", 2}, {"expr", "a[1", 3},
		{"expr", "a[1]]", 4}, {"expr", "a[1][2]", 4}, {"expr", "(a)[1]", 3}, {"expr", "1[1]", 1}, {"expr", "f(1)", 1}, {"expr", "int", 3},
		{"expr", "int x", 4}, {"expr", "int()", 4}, {"expr", "int[1]", 3}, {"expr", "bool(x)", 0}, {"expr", "int(1,2)", 5},
		{"expr", "true(1)", 4}, {"expr", "x=1", 1}, {"expr", "x;", 1}, {"expr", ";", 0}, {"expr", "if", 0}, {"expr", "1!", 1}, {"expr", "-", 1},
		{"expr", "a&&", 3}, {"expr", "a||&&b", 3}, {"expr", "(1,2)", 2}, {"expr", "a[1,2]", 3}, {"expr", "{1}", 0}, {"expr", "x:=1", 1},
		{"program", "x", 0}, {"program", "1", 0}, {"program", ";", 0}, {"program", "int x;", 0}, {"program", "var", 3}, {"program", "var int x;", 4},
		{"program", "var x", 5}, {"program", "var x;", 5}, {"program", "var x int", 9}, {"program", "var x int,", 9}, {"program", "var x[int] 3;", 6},
		{"program", "var x[-1] int;", 6}, {"program", "var x[#3ff0000000000000] int;", 6}, {"program", "var x[n] int;", 6}, {"program", "var x[] int;", 6},
		{"program", "var x[1 int;", 8}, {"program", "var x[1];", 8}, {"program", "var x[1][2] int;", 8}, {"program", "var x mutex;", 6}, {"program", "var x int = 1;", 10},
		{"program", "var if int;", 4}, {"program", "var 1 int;", 4}, {"program", "mutex;", 5}, {"program", "mutex m int;", 8}, {"program", "mutex m[1];", 7},
		{"program", "chan c int;", 7}, {"program", "chan c[1];", 9}, {"program", "chan c[1]", 9}, {"program", "chan c[] int;", 7}, {"program", "atomic k int;", 9},
		{"program", "var x int;;", 10}, {"program", "func f( { }", 8}, {"program", "func (){}", 5}, {"program", "func f{}", 6}, {"program", "func f(){};", 10},
		{"program", "func f(a){}", 8}, {"program", "func f(int){}", 7}, {"program", "func f(a int,){}", 13}, {"program", "func f(a int b int){}", 13},
		{"program", "func f(,){}", 7}, {"program", "func f(a,b int){}", 8}, {"program", "func f() int {}", 9}, {"program", "func f();", 8}, {"program", "func f(a[1] int){}", 8},
		{"program", "func f(){", 9}, {"program", "func f(){}}", 10}, {"program", "return;", 0}, {"program", "var x int; x = 1;", 11},
	} {
		wantBad(t, c.start, c.src, api.ErrText, c.at)
	}
}

func TestWrongStatements(t *testing.T) {
	for _, c := range []struct {
		stmt string
		at   int
	}{
		{"x", 1}, {"x;", 1}, {"1;", 0}, {"(x)=1;", 0}, {"x=;", 2}, {"x==1;", 1}, {"x=1", 3}, {"x=1,", 3}, {"x=1 x=2;", 4}, {"x[1];", 4}, {"x[1]:=1;", 4},
		{"x[1](2);", 4}, {"x[]=1;", 2}, {"x:1", -1}, {"x:=;", 3}, {"x:=1:=2;", 4}, {"x=y=1;", 3}, {"x+1;", 1}, {"f(;", 2}, {"f(1;", 3}, {"f(1,);", 4}, {"f(,1);", 2},
		{"f()", 3}, {"f()=1;", 3}, {"f()();", 3}, {"f(1 2);", 4}, {"x=f();", 3}, {"f(g());", 3}, {"go;", 2}, {"go f;", 4}, {"go 1();", 3}, {"go f()", 6}, {"go f();;", 7},
		{"go x=1;", 4}, {"go f[1]();", 4}, {"lock;", 4}, {"lock 1;", 5}, {"lock m,1;", 6}, {"lock m", 6}, {"lock m[1];", 6}, {"unlock;", 6}, {"unlock m n;", 9},
		{"send c;", 6}, {"send c 1;", 7}, {"send c,;", 7}, {"send c,1", 8}, {"send c,1,2;", 8}, {"send c[1],1;", 6}, {"recv c;", 6}, {"recv c,1;", 7}, {"recv c,(x);", 7},
		{"recv c,x+1;", 8}, {"recv c,-x;", 7}, {"recv c,a[];", 9}, {"recv c,a[1]+1;", 11}, {"recv c,true;", 7}, {"add k;", 5}, {"add k,;", 6}, {"put k;", 5}, {"put k,1,2;", 7},
		{"get k;", 5}, {"get k,1;", 6}, {"get k,x y;", 8}, {"if{}", 2}, {"if x;", 4}, {"if x{};", 6}, {"if x{}else;", 10}, {"if x{}else if y{}", 11},
		{"if x{}else{}else{}", 12}, {"else{}", 0}, {"if x=1{}", 4}, {"if x return;", 5}, {"while{}", 5}, {"while x;", 7}, {"while x{}else{}", 9}, {"return 1;", 7},
		{"return", 6}, {"fail;", 4}, {"fail 1", 6}, {"fail 1,2;", 6}, {"{}", 0}, {";", 0}, {"var x int;", 0}, {"func g(){}", 0}, {"true;", 0}, {"int(x);", 0}, {"-x;", 0},
	} {
		src, before := inMain(c.stmt)
		if c.at < 0 { // what layer 5 refuses
			_, bad := token.Tokens(src)
			wantBad(t, "program", src, bad.Err, bad.At)
			continue
		}
		wantBad(t, "program", src, api.ErrText, before+c.at)
	}
}

// TestTwoErrors: layer 5's is told first, wherever it is; else the one that comes first.
func TestTwoErrors(t *testing.T) {
	wantBad(t, "expr", ") @", api.ErrText, 2)
	wantBad(t, "expr", ") 9223372036854775808", api.ErrRange, 2)
	wantBad(t, "expr", ") "+strings.Repeat("a", 25), api.ErrLarge, 2)
	wantBad(t, "program", "x 01", api.ErrText, 3)
	wantBad(t, "program", "x #1", api.ErrText, 2)
	wantBad(t, "expr", strings.Repeat("(", 17)+"@", api.ErrText, 17)
	wantBad(t, "expr", ") )", api.ErrText, 0)
	wantBad(t, "expr", "1 2 3", api.ErrText, 2)
	wantBad(t, "expr", strings.Repeat("(", 16)+") (", api.ErrText, 16)
	wantBad(t, "expr", strings.Repeat("(", 16)+"( )", api.ErrDepth, 16)
	wantBad(t, "expr", "1 2 "+strings.Repeat("(", 17), api.ErrText, 2)
	wantBad(t, "expr", strings.Repeat("(", 17)+" 1 2", api.ErrDepth, 16)
	// a bracket that can't stand there is no level
	wantBad(t, "expr", strings.Repeat("(", 16)+"1(", api.ErrText, 17)
	wantBad(t, "expr", strings.Repeat("(", 16)+"x(", api.ErrText, 17)
	wantBad(t, "expr", strings.Repeat("(", 16)+"x[", api.ErrDepth, 17)
	wantBad(t, "expr", strings.Repeat("(", 16)+"1[", api.ErrText, 17)
	wantBad(t, "expr", strings.Repeat("(", 16)+"int[", api.ErrText, 19)
	wantBad(t, "expr", strings.Repeat("(", 16)+"int(", api.ErrDepth, 19)
	wantBad(t, "expr", strings.Repeat("(", 16)+"1!", api.ErrText, 17)
	wantBad(t, "expr", strings.Repeat("(", 16)+"!", api.ErrDepth, 16)
	wantBad(t, "expr", strings.Repeat("(", 16)+"{", api.ErrText, 16)
	wantBad(t, "expr", strings.Repeat("(", 16)+"1-", api.ErrText, 18)
	wantBad(t, "expr", strings.Repeat("(", 16)+"1--", api.ErrDepth, 18)
}

// nested is a text with levels in one another, and where each of them begins.
type nested struct {
	start, before, open, middle, shut, behind string
	own                                       int // levels of before
	begins                                    int // the byte of open at which its level begins
}

func (n nested) text(levels int) string {
	return n.before + strings.Repeat(n.open, levels-n.own) + n.middle + strings.Repeat(n.shut, levels-n.own) + n.behind
}

func TestLevels(t *testing.T) {
	head := "func f(){"
	for _, n := range []nested{
		{start: "expr", open: "(", middle: "1", shut: ")"},
		{start: "expr", open: "a[", middle: "1", shut: "]", begins: 1},
		{start: "expr", open: "int(", middle: "1", shut: ")", begins: 3},
		{start: "expr", open: "float(", middle: "1", shut: ")", begins: 5},
		{start: "expr", open: "-", middle: "1"},
		{start: "expr", open: "!", middle: "x"},
		{start: "expr", open: "1+(", middle: "1", shut: ")+1", begins: 2},
		{start: "expr", open: "(1)*(", middle: "1", shut: ")"},
		{start: "expr", open: "-x+(", middle: "1", shut: ")"},
		{start: "program", before: head, open: "if x{", shut: "}", behind: "}", own: 1, begins: 4},
		{start: "program", before: head, open: "while x{", shut: "}", behind: "}", own: 1, begins: 7},
		{start: "program", before: head, open: "if x{}else{", shut: "}", behind: "}", own: 1, begins: 4},
		{start: "program", before: head + "x=", open: "(", middle: "1", shut: ")", behind: ";}", own: 1},
		{start: "program", before: head + "x:=", open: "-", middle: "1", behind: ";}", own: 1},
		{start: "program", before: head, open: "a[", middle: "x", shut: "]", behind: "=1;}", own: 1, begins: 1},
		{start: "program", before: head + "recv c,", open: "a[", middle: "x", shut: "]", behind: ";}", own: 1, begins: 1},
		{start: "program", before: head + "g(", open: "(", middle: "1", shut: ")", behind: ");}", own: 2},
		{start: "program", before: head + "go g(1,", open: "(", middle: "1", shut: ")", behind: ",2);}", own: 2},
		{start: "program", before: head + "if x{lock m;}return;while y{go g(x);", open: "if x{", shut: "}", behind: "}}", own: 2, begins: 4},
	} {
		for levels := n.own; levels <= api.MaxDepth; levels++ {
			wantModel(t, n.text(levels), n.start)
			wantRight(t, n.start, n.text(levels))
		}
		at := len(n.before) + (api.MaxDepth-n.own)*len(n.open) + n.begins
		wantBad(t, n.start, n.text(api.MaxDepth+1), api.ErrDepth, at)
		wantBad(t, n.start, n.text(api.MaxDepth+5), api.ErrDepth, at)
	}
}

// TestLevelsOfArguments: the bracket of a call's arguments is one, even if there are none.
func TestLevelsOfArguments(t *testing.T) {
	for levels := api.MaxDepth - 1; levels <= api.MaxDepth; levels++ {
		before := "func f(){" + strings.Repeat("while x{", levels-1)
		behind := strings.Repeat("}", levels)
		for _, stmt := range []string{"g();", "go g();", "a[1]=1;", "get k,a[1];", "x=-1;", "x=(1);", "x=int(1);", "while x{}"} {
			begins := len(before) + strings.IndexAny(stmt, "([-{")
			if levels < api.MaxDepth {
				wantRight(t, "program", before+stmt+behind)
			} else {
				wantBad(t, "program", before+stmt+behind, api.ErrDepth, begins)
			}
		}
		wantRight(t, "program", before+"x=1-1; lock m;"+behind)
	}
}

// TestNoLevels: brackets of declarations are none, and what has ended isn't any more.
func TestNoLevels(t *testing.T) {
	many := api.MaxDepth + 4
	wantRight(t, "expr", strings.Repeat("(1)+", many)+"1")
	wantRight(t, "expr", strings.Repeat("-1-", many)+"1")
	wantRight(t, "expr", strings.Repeat("a[1]*", many)+"1")
	wantRight(t, "expr", strings.Repeat("int(1)*", many)+"-1")
	wantRight(t, "expr", strings.Repeat("a+b*c<d&&", many)+"x")
	wantRight(t, "program", strings.Repeat("var x[1] int; chan c[1] int; func f(a int){}", many))
	wantRight(t, "program", "func f(){"+strings.Repeat("if x{}else{}while x{}g(1);go g();a[1]=-1;", many)+"}")
	wantRight(t, "program", "func f(a int){"+strings.Repeat("while x{", api.MaxDepth-1)+strings.Repeat("}", api.MaxDepth))
	wantRight(t, "expr", strings.Repeat("(", 14)+"!a[1]&&!a[1]"+strings.Repeat(")", 14))
	wantRight(t, "expr", strings.Repeat("(", 15)+strings.Repeat("-x+", many)+"1"+strings.Repeat(")", 15))
}

func TestLimits(t *testing.T) {
	// 2000 tokens, and one more
	row := strings.Repeat("1+", api.MaxTokens/2-1) + "-1"
	wantRight(t, "expr", row)
	n, _ := tree.Expr(row)
	if tree.Count(n) != api.MaxTokens || tree.Depth(n) != api.MaxTokens/2 {
		t.Errorf("%d nodes, %d in one another", tree.Count(n), tree.Depth(n))
	}
	wantBad(t, "expr", row+"+", api.ErrLarge, len(row))
	wantBad(t, "expr", row+")", api.ErrLarge, len(row))
	wantRight(t, "program", strings.Repeat("var x int;\n", api.MaxTokens/4))
	wantBad(t, "program", strings.Repeat("var x int;\n", api.MaxTokens/4)+"var", api.ErrLarge, 11*api.MaxTokens/4)
	// 8192 bytes, and one more
	wantRight(t, "expr", "1"+strings.Repeat(" ", api.MaxText-1))
	wantBad(t, "expr", "1"+strings.Repeat(" ", api.MaxText), api.ErrLarge, 0)
	wantBad(t, "program", "mutex m;"+strings.Repeat(" ", api.MaxText), api.ErrLarge, 0)
	wantBad(t, "program", strings.Repeat(" ", api.MaxText+1), api.ErrLarge, 0)
	wantBad(t, "program", "("+strings.Repeat(" ", api.MaxText-1), api.ErrText, 0)
	wantBad(t, "expr", "("+strings.Repeat(" ", api.MaxText-1), api.ErrText, api.MaxText)
	// limits of later layers are none of this one's
	wantRight(t, "program", "func f(a int,a int,a int,a int,a int,a int){} chan c[9223372036854775807] int; var a[9223372036854775807] int;")
}

// TestEveryByte: one byte by itself, and within a text.
func TestEveryByte(t *testing.T) {
	for c := range 256 {
		b := string([]byte{byte(c)})
		for _, start := range []string{"program", "expr"} {
			for _, src := range []string{b, "x" + b, b + "x", "1" + b + "1", "var x" + b + "int;"} {
				wantModel(t, src, start)
			}
		}
	}
}
