package show_test

import (
	"fmt"
	"math"
	"math/rand"
	"slices"
	"strings"
	"testing"

	"stockade/api"
	"stockade/show"
	"stockade/token"
	"stockade/tree"
)

// The tests of P7.1 and P7.2 on all small expressions and on many programs: the text by a model that puts brackets where layer 6, asked, would read another tree without them.

// modelExpr is an expression's text. It asks layer 6, so that it goes for expressions of few levels alone.
func modelExpr(n api.Node) string {
	parts := make([]string, len(n.Kids))
	for i, kid := range n.Kids {
		parts[i] = modelExpr(kid)
	}
	switch n.Kind {
	case api.KInt:
		return fmt.Sprint(n.N)
	case api.KFloat:
		return fmt.Sprintf("#%016x", n.Bits)
	case api.KBool:
		return fmt.Sprint(n.N == 1)
	case api.KName:
		return n.Name
	case api.KIndex:
		return n.Name + "[" + parts[0] + "]"
	}
	whole := func() string {
		switch {
		case n.Kind == api.KBinary:
			return parts[0] + " " + n.Name + " " + parts[1]
		case n.Name == "int" || n.Name == "float":
			return n.Name + "(" + parts[0] + ")"
		}
		return n.Name + parts[0]
	}
	bare := slices.Clone(parts)
	needs := make([]bool, len(parts))
	for i := range bare {
		for k := range parts {
			parts[k] = "(" + bare[k] + ")"
		}
		parts[i] = bare[i]
		read, bad := tree.Expr(whole())
		needs[i] = bad.Err != nil || !tree.Same(read, n)
	}
	for i := range bare {
		parts[i] = bare[i]
		if needs[i] {
			parts[i] = "(" + bare[i] + ")"
		}
	}
	return whole()
}

// modelLines is a declaration's or statement's lines.
func modelLines(n api.Node) []string {
	typ := []string{"", "int", "float", "bool"}[n.Type]
	line := func(form string, parts ...any) []string { return []string{fmt.Sprintf(form, parts...)} }
	list := func(nodes []api.Node) string {
		var texts []string
		for _, kid := range nodes {
			if kid.Kind == api.KParam {
				texts = append(texts, kid.Name+" "+[]string{"", "int", "float", "bool"}[kid.Type])
			} else {
				texts = append(texts, modelExpr(kid))
			}
		}
		return strings.Join(texts, ", ")
	}
	verb := map[int]string{api.KLock: "lock", api.KUnlock: "unlock", api.KSend: "send", api.KRecv: "recv", api.KAdd: "add", api.KPut: "put", api.KGet: "get"}[n.Kind]
	switch n.Kind {
	case api.KVar:
		return line("var %s %s;", n.Name, typ)
	case api.KArray:
		return line("var %s[%d] %s;", n.Name, n.N, typ)
	case api.KMutex:
		return line("mutex %s;", n.Name)
	case api.KChan:
		return line("chan %s[%d] %s;", n.Name, n.N, typ)
	case api.KAtomic:
		return line("atomic %s;", n.Name)
	case api.KFunc:
		return slices.Concat(line("func %s(%s) {", n.Name, list(n.Kids[:n.N])), modelBlock(n.Kids[n.N]), line("}"))
	case api.KSet:
		return line("%s = %s;", modelExpr(n.Kids[0]), modelExpr(n.Kids[1]))
	case api.KLet:
		return line("%s := %s;", n.Name, modelExpr(n.Kids[0]))
	case api.KGo:
		return line("go %s(%s);", n.Name, list(n.Kids))
	case api.KCall:
		return line("%s(%s);", n.Name, list(n.Kids))
	case api.KLock, api.KUnlock:
		return line("%s %s;", verb, n.Name)
	case api.KSend, api.KRecv, api.KAdd, api.KPut, api.KGet:
		return line("%s %s, %s;", verb, n.Name, modelExpr(n.Kids[0]))
	case api.KReturn:
		return line("return;")
	case api.KFail:
		return line("fail %s;", modelExpr(n.Kids[0]))
	case api.KWhile:
		return slices.Concat(line("while %s {", modelExpr(n.Kids[0])), modelBlock(n.Kids[1]), line("}"))
	}
	lines := append(line("if %s {", modelExpr(n.Kids[0])), modelBlock(n.Kids[1])...)
	if len(n.Kids) == 3 {
		lines = slices.Concat(lines, line("} else {"), modelBlock(n.Kids[2]))
	}
	return append(lines, "}")
}

func modelBlock(n api.Node) []string {
	var lines []string
	for _, kid := range n.Kids {
		for _, text := range modelLines(kid) {
			lines = append(lines, "\t"+text)
		}
	}
	return lines
}

func modelText(n api.Node) string {
	text := ""
	for _, kid := range n.Kids {
		text += strings.Join(modelLines(kid), "\n") + "\n"
	}
	return text
}

// wantSameExpr asks that an expression's text is the model's, and is read back.
func wantSameExpr(t *testing.T, n api.Node) {
	t.Helper()
	want := modelExpr(n)
	wantExpr(t, n, want)
	back, bad := tree.Expr(want)
	if bad.Err != nil || !tree.Same(back, n) {
		t.Errorf("%q is read back as %s, %v", want, tell(back), bad)
	}
	wantExpr(t, back, want)
}

// wantReadBack asks for P7.2: what comes back is the same tree, and has the same text.
func wantReadBack(t *testing.T, n api.Node) {
	t.Helper()
	text, err := show.Text(n)
	back, bad := tree.Parse(text)
	if err != nil || bad.Err != nil || !tree.Same(back, n) {
		t.Errorf("%q, %v is read back as %s, %v", tell(text), err, tell(back), bad)
		return
	}
	wantText(t, back, text)
	if clean, bad := show.Clean(text); clean != text || bad != (api.Bad{}) {
		t.Errorf("Clean(%s): %s, %v", tell(text), tell(clean), bad)
	}
}

// TestAllSmallExpressions: an operator of each rank and each unary one, in one another three deep; then all operators, two deep.
func TestAllSmallExpressions(t *testing.T) {
	t.Parallel()
	leaves := []api.Node{name("x")}
	few := []string{"||", "&&", "<", "==", "-", "/"}
	if testing.Short() {
		few = []string{"||", "<", "-"}
	}
	two := grown(append(grown(leaves, few), leaves...), few)
	for _, n := range two {
		wantSameExpr(t, n)
	}
	for _, n := range grown(append(grown(leaves, slices.Concat(ranks...)), leaves...), slices.Concat(ranks...)) {
		wantSameExpr(t, n)
	}
}

// grown is all expressions of one operator whose kids are among these.
func grown(kids []api.Node, operators []string) []api.Node {
	var out []api.Node
	for _, left := range kids {
		out = append(out, index("a", left))
		for _, o := range []string{"-", "!", "int", "float"} {
			out = append(out, unary(o, left))
		}
		for _, o := range operators {
			for _, right := range kids {
				out = append(out, binary(o, left, right))
			}
		}
	}
	return out
}

func pick[T any](r *rand.Rand, list ...T) T {
	return list[r.Intn(len(list))]
}

func randomName(r *rand.Rand) string {
	return pick(r, "x", "y", "main", "_", "_1", "Int", "ifs", strings.Repeat("n", 24))
}

// randomExpr is an expression of at most so many levels.
func randomExpr(r *rand.Rand, deep int) api.Node {
	if deep == 0 || r.Intn(4) == 0 {
		return pick(r, number(r.Intn(3)), number(math.MaxInt), float(r.Uint64()), float(r.Uint64()>>r.Intn(64)), truth(r.Intn(2)), name(randomName(r)))
	}
	switch r.Intn(8) {
	case 0:
		return index(randomName(r), randomExpr(r, deep-1))
	case 1, 2:
		return unary(pick(r, "-", "!", "int", "float"), randomExpr(r, deep-1))
	}
	return binary(pick(r, pick(r, ranks...)...), randomExpr(r, deep-1), randomExpr(r, deep-1))
}

func randomExprs(r *rand.Rand, most int) []api.Node {
	var list []api.Node
	for range r.Intn(most + 1) {
		list = append(list, randomExpr(r, 2))
	}
	return list
}

func randomTarget(r *rand.Rand) api.Node {
	return pick(r, name(randomName(r)), index(randomName(r), randomExpr(r, 2)))
}

func randomBlock(r *rand.Rand, deep int) api.Node {
	b := block()
	for range r.Intn(5) {
		b.Kids = append(b.Kids, randomStmt(r, deep))
	}
	return b
}

func randomStmt(r *rand.Rand, deep int) api.Node {
	w := randomName(r)
	if deep > 0 && r.Intn(3) == 0 {
		e := randomExpr(r, 2)
		switch r.Intn(3) {
		case 0:
			return node(api.KIf, "", e, randomBlock(r, deep-1))
		case 1:
			return node(api.KIf, "", e, randomBlock(r, deep-1), randomBlock(r, deep-1))
		}
		return node(api.KWhile, "", e, randomBlock(r, deep-1))
	}
	switch r.Intn(7) {
	case 0:
		return node(api.KSet, "", randomTarget(r), randomExpr(r, 3))
	case 1:
		return node(pick(r, api.KGo, api.KCall), w, randomExprs(r, 3)...)
	case 2:
		return node(pick(r, api.KLock, api.KUnlock), w)
	case 3:
		return node(pick(r, api.KRecv, api.KGet), w, randomTarget(r))
	case 4:
		return node(api.KReturn, "")
	case 5:
		return node(api.KFail, "", randomExpr(r, 3))
	}
	return node(pick(r, api.KLet, api.KSend, api.KAdd, api.KPut), w, randomExpr(r, 3))
}

func randomDecl(r *rand.Rand) api.Node {
	w, typ, n := randomName(r), 1+r.Intn(3), pick(r, 0, 1, 9, math.MaxInt)
	switch r.Intn(4) {
	case 0:
		return api.Node{Kind: api.KVar, Name: w, Type: typ}
	case 1:
		return api.Node{Kind: pick(r, api.KArray, api.KChan), Name: w, Type: typ, N: n}
	case 2:
		return node(pick(r, api.KMutex, api.KAtomic), w)
	}
	var params []api.Node
	for range r.Intn(6) {
		params = append(params, param(randomName(r), 1+r.Intn(3)))
	}
	return function(w, randomBlock(r, 3), params...)
}

// scattered is a tree whose nodes stand anywhere.
func scattered(r *rand.Rand, n api.Node) api.Node {
	n.At = int(r.Uint64())
	n.Kids = slices.Clone(n.Kids)
	for i, kid := range n.Kids {
		n.Kids[i] = scattered(r, kid)
	}
	return n
}

func TestRandomPrograms(t *testing.T) {
	t.Parallel()
	times := 500
	if testing.Short() {
		times = 100
	}
	r := rand.New(rand.NewSource(7))
	back := 0
	for range times {
		n := program()
		for range r.Intn(6) {
			n.Kids = append(n.Kids, randomDecl(r))
		}
		want := modelText(n)
		wantText(t, n, want)
		wantText(t, scattered(r, n), want)
		if tokens, bad := token.Tokens(want); bad.Err == nil && len(tokens) <= api.MaxTokens {
			wantReadBack(t, n)
			back++
		}
	}
	if back < times*3/4 {
		t.Errorf("%d of %d programs are within limits", back, times)
	}
}

// TestSpacesChangeNothing: a text whose tokens stand otherwise, with brackets too many, is cleaned to the same.
func TestSpacesChangeNothing(t *testing.T) {
	r := rand.New(rand.NewSource(8))
	for range 200 {
		n := program(randomDecl(r))
		text := modelText(n)
		tokens, bad := token.Tokens(text)
		if bad.Err != nil {
			continue
		}
		other := ""
		for _, tok := range tokens {
			other += tok.Text + pick(r, " ", "\n", "\t ", " // (\n", "\r")
		}
		want, _ := show.Text(n)
		if got, bad := show.Clean(other); len(other) <= api.MaxText && (got != want || bad.Err != nil) {
			t.Errorf("Clean(%s): %s, %v, want %s", tell(other), tell(got), bad, tell(want))
		}
	}
}

// TestLimitsOfReadingBack: programs at the limits are read back; those with one more are shown, but layer 6 refuses their text.
func TestLimitsOfReadingBack(t *testing.T) {
	inFunc := func(stmts ...api.Node) api.Node { return program(function("f", block(stmts...))) }
	wantLimit := func(within, past api.Node, err error) {
		t.Helper()
		wantReadBack(t, within)
		text, none := show.Text(past)
		if _, bad := tree.Parse(text); bad.Err != err || none != nil {
			t.Errorf("%s, %v: %v, want %v", tell(text), none, bad, err)
		}
	}
	// A call of 995 ints, with the function around it, has 1999 tokens; a sign is one more.
	ints := slices.Repeat([]api.Node{number(1)}, 995)
	ints[0] = unary("-", number(1))
	many := node(api.KCall, "f", slices.Clone(ints)...)
	ints[9] = unary("-", number(1))
	wantLimit(inFunc(many), inFunc(node(api.KCall, "f", ints...)), api.ErrLarge)
	blocks := block()
	for range api.MaxDepth - 1 {
		blocks = block(node(api.KWhile, "", number(1), blocks))
	}
	wantLimit(program(function("f", blocks)), inFunc(node(api.KWhile, "", number(1), blocks)), api.ErrDepth)
	signs, right := number(1), number(1)
	for range api.MaxDepth - 1 {
		signs, right = unary("-", signs), index("a", right)
	}
	wantLimit(inFunc(node(api.KFail, "", signs)), inFunc(node(api.KFail, "", unary("!", signs))), api.ErrDepth)
	wantLimit(inFunc(node(api.KFail, "", right)), inFunc(node(api.KSet, "", index("a", right), number(1))), api.ErrDepth)
	wantLimit(longProgram(api.MaxText), longProgram(api.MaxText+1), api.ErrLarge)
}

// longProgram is a program of a text of so many bytes: "mutex" lines of 32 bytes, the last one shorter.
func longProgram(size int) api.Node {
	n := program()
	for size > 62 {
		n.Kids = append(n.Kids, node(api.KMutex, strings.Repeat("m", 24)))
		size -= 32
	}
	n.Kids = append(n.Kids, node(api.KMutex, strings.Repeat("a", size/2-8)), node(api.KMutex, strings.Repeat("b", size-size/2-8)))
	return n
}
