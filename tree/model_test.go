package tree_test

import (
	"math/rand"
	"reflect"
	"slices"
	"strings"
	"testing"
	"unsafe"

	"stockade/api"
	"stockade/token"
	"stockade/tree"
)

// The tests of P6.1 and P6.2 on all short rows of tokens and on many long ones: the error by the grammar's recognizer, the tree by cutting a right row of tokens at its brackets and operators.

// model is what the chapter says of a text: start is "program" or "expr".
func model(src, start string) (api.Node, api.Bad) {
	tokens, bad := token.Tokens(src)
	if bad.Err != nil {
		return api.Node{}, bad
	}
	can := 0 // how many tokens can stand there
	c := newChart(start)
	for ok := true; can < len(tokens); can++ {
		if c, ok = c.next(class(tokens[can])); !ok {
			break
		}
	}
	return modelOf(src, start, tokens, can, can == len(tokens) && c.whole(start))
}

// modelOf is what the chapter says of tokens, as many of which can stand there as told.
func modelOf(src, start string, tokens []api.Token, can int, whole bool) (api.Node, api.Bad) {
	if deep := tooDeep(tokens[:can], start); deep >= 0 {
		return api.Node{}, api.Bad{Err: api.ErrDepth, At: tokens[deep].At}
	}
	if can < len(tokens) {
		return api.Node{}, api.Bad{Err: api.ErrText, At: tokens[can].At}
	}
	if !whole {
		return api.Node{}, api.Bad{Err: api.ErrText, At: len(src)}
	}
	if start == "expr" {
		return modelExpr(tokens), api.Bad{}
	}
	return modelProgram(src, tokens), api.Bad{}
}

func in(t api.Token, texts ...string) bool {
	return slices.Contains(texts, t.Text)
}

// operand tells whether a token ends an operand, so that an operator behind it has two.
func operand(t api.Token) bool {
	return t.Kind == api.LWord || t.Kind == api.LInt || t.Kind == api.LFloat || in(t, ")", "]", "true", "false")
}

// tooDeep is the first token that begins a level too many; -1, if none does.
func tooDeep(tokens []api.Token, start string) int {
	open := ""  // brackets that are open, and u for each unary operator whose operand isn't whole
	blocks := 0 // outside of blocks the brackets of a program are no levels
	for i, t := range tokens {
		level := start == "expr" || blocks > 0 || t.Text == "{"
		switch {
		case in(t, "{"):
			blocks++
			open += "{"
		case in(t, "(", "["):
			if level {
				open += t.Text
			}
		case in(t, "-", "!") && !operand(tokens[i-min(i, 1)]) || i == 0 && in(t, "-", "!"):
			open += "u"
		case in(t, ")", "]", "}"):
			if level {
				open = open[:len(open)-1]
			}
			if t.Text == "}" {
				blocks--
			}
		}
		if len(open) > api.MaxDepth {
			return i
		}
		if operand(t) && !(i+1 < len(tokens) && in(tokens[i+1], "[") && t.Kind == api.LWord) {
			open = strings.TrimRight(open, "u")
		}
	}
	return -1
}

// shut is where the bracket is shut that stands at a token.
func shut(tokens []api.Token, at int) int {
	depth := 0
	for i := at; ; i++ {
		if in(tokens[i], "(", "[", "{") {
			depth++
		}
		if in(tokens[i], ")", "]", "}") {
			if depth--; depth == 0 {
				return i
			}
		}
	}
}

// find is the first token of a text that stands outside of brackets.
func find(tokens []api.Token, text string) int {
	for i := 0; i < len(tokens); i++ {
		if tokens[i].Text == text {
			return i
		}
		if in(tokens[i], "(", "[", "{") {
			i = shut(tokens, i)
		}
	}
	return -1
}

func modelProgram(src string, tokens []api.Token) api.Node {
	n := api.Node{Kind: api.KProgram, At: len(src)}
	if len(tokens) > 0 {
		n.At = tokens[0].At
	}
	for len(tokens) > 0 {
		end := find(tokens, ";")
		if tokens[0].Text == "func" {
			end = shut(tokens, find(tokens, "{"))
		}
		n.Kids = append(n.Kids, modelDecl(tokens[:end+1]))
		tokens = tokens[end+1:]
	}
	return n
}

func typeOf(t api.Token) int {
	return map[string]int{"int": api.TInt, "float": api.TFloat, "bool": api.TBool}[t.Text]
}

func modelDecl(tokens []api.Token) api.Node {
	n := api.Node{At: tokens[0].At, Name: tokens[1].Text}
	n.Kind = map[string]int{"var": api.KVar, "mutex": api.KMutex, "chan": api.KChan, "atomic": api.KAtomic, "func": api.KFunc}[tokens[0].Text]
	switch {
	case n.Kind == api.KFunc:
		end := shut(tokens, 2)
		for i := 3; i < end; i += 3 {
			n.Kids = append(n.Kids, api.Node{Kind: api.KParam, At: tokens[i].At, Name: tokens[i].Text, Type: typeOf(tokens[i+1])})
			n.N++
		}
		n.Kids = append(n.Kids, modelBlock(tokens[end+1:]))
	case n.Kind == api.KChan, n.Kind == api.KVar:
		n.Type = typeOf(tokens[len(tokens)-2])
		if in(tokens[2], "[") {
			n.N = tokens[3].N
		}
		if n.Kind == api.KVar && in(tokens[2], "[") {
			n.Kind = api.KArray
		}
	}
	return n
}

func modelBlock(tokens []api.Token) api.Node {
	n := api.Node{Kind: api.KBlock, At: tokens[0].At}
	for tokens = tokens[1 : len(tokens)-1]; len(tokens) > 0; {
		end := find(tokens, ";")
		if in(tokens[0], "if", "while") {
			end = shut(tokens, find(tokens, "{"))
			if end+1 < len(tokens) && in(tokens[end+1], "else") {
				end = shut(tokens, end+2)
			}
		}
		n.Kids = append(n.Kids, modelStmt(tokens[:end+1]))
		tokens = tokens[end+1:]
	}
	return n
}

func modelStmt(tokens []api.Token) api.Node {
	kind := map[string]int{"go": api.KGo, "lock": api.KLock, "unlock": api.KUnlock, "send": api.KSend, "recv": api.KRecv, "add": api.KAdd, "put": api.KPut, "get": api.KGet, "if": api.KIf, "while": api.KWhile, "return": api.KReturn, "fail": api.KFail}[tokens[0].Text]
	n := api.Node{Kind: kind, At: tokens[0].At}
	last := len(tokens) - 1
	switch {
	case kind == api.KIf || kind == api.KWhile:
		from := find(tokens, "{")
		n.Kids = []api.Node{modelExpr(tokens[1:from])}
		for from < len(tokens) {
			to := shut(tokens, from)
			n.Kids = append(n.Kids, modelBlock(tokens[from:to+1]))
			from = to + 2
		}
	case kind == api.KReturn:
	case kind == api.KFail:
		n.Kids = []api.Node{modelExpr(tokens[1:last])}
	case kind == api.KGo:
		n.Name, n.Kids = tokens[1].Text, modelArgs(tokens[3:last-1])
	case kind != 0:
		n.Name = tokens[1].Text
		if last > 2 {
			n.Kids = []api.Node{modelExpr(tokens[3:last])}
		}
	case in(tokens[1], ":="):
		n.Kind, n.Name, n.Kids = api.KLet, tokens[0].Text, []api.Node{modelExpr(tokens[2:last])}
	case in(tokens[1], "("):
		n.Kind, n.Name, n.Kids = api.KCall, tokens[0].Text, modelArgs(tokens[2:last-1])
	default:
		is := find(tokens, "=")
		n.Kind, n.Kids = api.KSet, []api.Node{modelExpr(tokens[:is]), modelExpr(tokens[is+1 : last])}
	}
	return n
}

func modelArgs(tokens []api.Token) []api.Node {
	var out []api.Node
	for len(tokens) > 0 {
		end := find(tokens, ",")
		if end < 0 {
			end = len(tokens)
		}
		out = append(out, modelExpr(tokens[:end]))
		tokens = tokens[min(end+1, len(tokens)):]
	}
	return out
}

// modelExpr cuts at the operator that binds least, and of several such at the last one, outside of brackets.
func modelExpr(tokens []api.Token) api.Node {
	for _, texts := range [][]string{{"||"}, {"&&"}, {"==", "!=", "<", "<=", ">", ">="}, {"+", "-"}, {"*", "/", "%"}} {
		cut := -1
		for i := 0; i < len(tokens); i++ {
			if in(tokens[i], "(", "[") {
				i = shut(tokens, i)
			} else if i > 0 && in(tokens[i], texts...) && operand(tokens[i-1]) {
				cut = i
			}
		}
		if cut > 0 {
			left := modelExpr(tokens[:cut])
			return api.Node{Kind: api.KBinary, At: left.At, Name: tokens[cut].Text, Kids: []api.Node{left, modelExpr(tokens[cut+1:])}}
		}
	}
	return modelOperand(tokens)
}

func modelOperand(tokens []api.Token) api.Node {
	first, last := tokens[0], len(tokens)-1
	n := api.Node{At: first.At}
	switch {
	case in(first, "("):
		return modelExpr(tokens[1:last])
	case in(first, "-", "!"):
		n.Kind, n.Name, n.Kids = api.KUnary, first.Text, []api.Node{modelExpr(tokens[1:])}
	case in(first, "int", "float"):
		n.Kind, n.Name, n.Kids = api.KUnary, first.Text, []api.Node{modelExpr(tokens[2:last])}
	case in(first, "true"):
		n.Kind, n.N = api.KBool, 1
	case in(first, "false"):
		n.Kind = api.KBool
	case first.Kind == api.LInt:
		n.Kind, n.N = api.KInt, first.N
	case first.Kind == api.LFloat:
		n.Kind, n.Bits = api.KFloat, first.Bits
	case last > 0:
		n.Kind, n.Name, n.Kids = api.KIndex, first.Text, []api.Node{modelExpr(tokens[2:last])}
	default:
		n.Kind, n.Name = api.KName, first.Text
	}
	return n
}

func read(src, start string) (api.Node, api.Bad) {
	if start == "expr" {
		return tree.Expr(src)
	}
	return tree.Parse(src)
}

// wantIs holds an answer against what the model says of it.
func wantIs(t *testing.T, src, start string, want api.Node, wantBad api.Bad) {
	t.Helper()
	got, bad := read(src, start)
	if bad != wantBad {
		t.Errorf("%s %q: %v, want %v", start, src, bad, wantBad)
	}
	if !reflect.DeepEqual(plain(got), plain(want)) {
		t.Errorf("%s %q: %v, want %v", start, src, got, want)
	}
	if bad.Err == nil {
		wantPlaces(t, src, got)
	}
}

func wantModel(t *testing.T, src, start string) {
	t.Helper()
	want, bad := model(src, start)
	wantIs(t, src, start, want, bad)
}

// plain is a tree whose lists of no kids are nil.
func plain(n api.Node) api.Node {
	var kids []api.Node
	for _, kid := range n.Kids {
		kids = append(kids, plain(kid))
	}
	n.Kids = kids
	return n
}

// wantPlaces is P6.2 of a text's tree; and no two lists of it share memory.
func wantPlaces(t *testing.T, src string, n api.Node) {
	t.Helper()
	tokens, _ := token.Tokens(src)
	begins := map[int]bool{}
	for _, x := range tokens {
		begins[x.At] = true
	}
	if n.Kind == api.KProgram && len(n.Kids) == 0 {
		begins[len(src)] = true
	}
	shared := map[*api.Node]bool{}
	var walk func(n api.Node)
	walk = func(n api.Node) {
		if !begins[n.At] || n.At > len(src) {
			t.Errorf("%q: a node of kind %d at %d, where no token is", src, n.Kind, n.At)
		}
		for i := range n.Kids[:cap(n.Kids)] {
			place := &n.Kids[:cap(n.Kids)][i]
			if shared[place] {
				t.Errorf("%q: lists share memory", src)
			}
			shared[place] = true
		}
		last := n.At - 1
		for _, kid := range n.Kids {
			if kid.At <= last {
				t.Errorf("%q: kids of a node of kind %d at %d and %d", src, n.Kind, last, kid.At)
			}
			last = kid.At
			walk(kid)
		}
		if n.Name != "" && len(src) > 0 {
			text, name := uintptr(unsafe.Pointer(unsafe.StringData(src))), uintptr(unsafe.Pointer(unsafe.StringData(n.Name)))
			if text <= name && name < text+uintptr(len(src)) {
				t.Errorf("%q: a name is a piece of the text", src)
			}
		}
	}
	walk(n)
}

// everyClass is each keyword, each mark, a word, an int and a float.
func everyClass() []string {
	out := []string{"W", "N", "F"}
	for _, text := range strings.Fields("add atomic bool chan else fail false float func get go if int lock mutex put recv return send true unlock var while := == != <= >= && || + - * / % < > = ! ( ) { } [ ] , ;") {
		out = append(out, `"`+text+`"`)
	}
	return out
}

// rows goes through all rows of tokens that can stand there, behind those that stand already, and asks each of them cut short, and with each class of token behind it.
func rows(t *testing.T, start string, c chart, text []string, more int, classes []string) {
	src := strings.Join(text, " ")
	tokens, _ := token.Tokens(src)
	want, bad := modelOf(src, start, tokens, len(tokens), c.whole(start))
	wantIs(t, src, start, want, bad)
	for _, class := range everyClass() {
		longer := append(text[:len(text):len(text)], sample(class))
		next, ok := c.next(class)
		if !ok {
			src := strings.Join(longer, " ")
			tokens, _ := token.Tokens(src)
			want, bad := modelOf(src, start, tokens, len(tokens)-1, false)
			wantIs(t, src, start, want, bad)
		} else if more > 0 && (classes == nil || slices.Contains(classes, class)) {
			rows(t, start, next, longer, more-1, classes)
		}
	}
}

func rowsBehind(t *testing.T, start, text string, more int, classes ...string) {
	c := newChart(start)
	tokens, _ := token.Tokens(text)
	for _, x := range tokens {
		next, ok := c.next(class(x))
		if !ok {
			t.Fatalf("%q can't stand there", text)
		}
		c = next
	}
	rows(t, start, c, strings.Fields(text), more, classes)
}

func TestAllRows(t *testing.T) {
	t.Parallel()
	short := 0
	if testing.Short() {
		short = 1
	}
	rowsBehind(t, "program", "", 8-short)
	rowsBehind(t, "expr", "", 3-short)
	rowsBehind(t, "expr", "", 6-short, "W", `"("`, `")"`, `"-"`, `"<"`, `"["`, `"]"`)
	rowsBehind(t, "expr", "", 5-short, "N", "F", `"true"`, `"int"`, `"("`, `")"`, `"-"`, `"+"`)
	rowsBehind(t, "expr", "", 7-2*short, "W", `"||"`, `"&&"`, `"=="`, `"+"`, `"*"`)
	rowsBehind(t, "program", "func f ( ) {", 4-short)
	rowsBehind(t, "program", "func f ( ) { if x {", 3-short)
	rowsBehind(t, "program", "func f ( ) { if x { }", 3-short)
	rowsBehind(t, "program", "func f ( ) {", 8-short, "W", `"("`, `")"`, `","`, `";"`, `"="`, `":="`)
	rowsBehind(t, "program", "func f ( ) { lock", 4-short)
	for _, word := range strings.Fields("go send recv add put get") {
		rowsBehind(t, "program", "func f ( ) { "+word, 6-short, "W", `"("`, `")"`, `","`, `";"`, `"["`, `"]"`, `"}"`)
	}
}

// TestDeepRows: the same where one level more, or none, can be begun.
func TestDeepRows(t *testing.T) {
	t.Parallel()
	for _, levels := range []int{api.MaxDepth - 2, api.MaxDepth - 1, api.MaxDepth} {
		more := 2
		if testing.Short() {
			more = 1
		}
		for _, open := range []string{"( ", "x [ ", "int ( ", "- ", "! ", "- ( - ", "- x [ ! "} {
			each := len(strings.Fields(strings.NewReplacer("x", "", "int", "").Replace(open)))
			text := strings.Repeat(open, levels/each) + strings.Repeat("( ", levels%each)
			rowsBehind(t, "expr", text, more)
		}
		block := "func f ( ) { " + strings.Repeat("while x { ", levels-1)
		rowsBehind(t, "program", block, more)
		rowsBehind(t, "program", block+"x [", 1)
		rowsBehind(t, "program", block+"x = x", more)
		rowsBehind(t, "program", block+"go x", more)
		rowsBehind(t, "program", block+"return ; }", more)
	}
}

// randomText is tokens that can stand there, one behind the other, with blanks and comments between; wrong is how often one that mostly can't is put in.
func randomText(r *rand.Rand, start string, most int, wrong float64) string {
	blanks := []string{" ", "  ", "\n", "\t", " // x = (\n", "\r\n"}
	c := newChart(start)
	text := ""
	for i := 0; i < most || !c.whole(start) && i < 4*most; i++ {
		can := c.can()
		if len(can) == 0 {
			break
		}
		pick := can[r.Intn(len(can))]
		for range 3 { // more words and ends than the grammar's rows have, so that texts come to an end
			if slices.Contains(can, `")"`) || slices.Contains(can, `"]"`) || slices.Contains(can, `";"`) || i > most {
				pick = can[r.Intn(len(can))]
			}
			if slices.Contains([]string{`")"`, `"]"`, `";"`, `"}"`, "W"}, pick) {
				break
			}
		}
		if r.Float64() < wrong {
			pick = everyClass()[r.Intn(len(everyClass()))]
		}
		text += sampleRandom(r, pick) + blanks[r.Intn(len(blanks))]
		next, ok := c.next(pick)
		if ok {
			c = next
		}
	}
	return text
}

func sampleRandom(r *rand.Rand, class string) string {
	switch class {
	case "W":
		return []string{"x", "main", "_1", "ifx", "Int"}[r.Intn(5)]
	case "N":
		return []string{"0", "1", "64", "9223372036854775807"}[r.Intn(4)]
	case "F":
		return []string{"#0000000000000000", "#7ff8000000000001", "#bff0000000000000"}[r.Intn(3)]
	}
	return sample(class)
}

func TestRandomTexts(t *testing.T) {
	t.Parallel()
	times := 600
	if testing.Short() {
		times = 100
	}
	r := rand.New(rand.NewSource(6))
	right := 0
	for i := range times {
		start := []string{"program", "expr"}[i%2]
		src := randomText(r, start, 1+r.Intn(60), []float64{0, 0, 0.02}[i%3])
		wantModel(t, src, start)
		if _, bad := read(src, start); bad.Err == nil {
			right++
		}
		wantModel(t, src[:r.Intn(len(src)+1)], start)
	}
	if right < times/10 {
		t.Errorf("%d of %d texts are right: too few to tell anything", right, times)
	}
}
