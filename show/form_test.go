package show_test

import (
	"fmt"
	"math"
	"regexp"
	"slices"
	"strings"
	"testing"

	"stockade/api"
	"stockade/show"
)

// The chapter's 'In form' as a table: which fields a kind has, and a pattern of its kids' letters. The tests hold it against the calls on trees of which one thing was changed.

type shape struct {
	letter string // d a declaration, p a parameter, b a block, s a statement, t what can be set, e another expression
	fields string // w a word, o an operator, u a unary one, y a type, n a number, v 0 or 1, k how many kids but one, f bits
	kids   string
}

var shapes = map[int]shape{
	api.KProgram: {"", "", "d*"},
	api.KVar:     {"d", "wy", ""},
	api.KArray:   {"d", "wyn", ""},
	api.KMutex:   {"d", "w", ""},
	api.KChan:    {"d", "wyn", ""},
	api.KAtomic:  {"d", "w", ""},
	api.KFunc:    {"d", "wk", "p*b"},
	api.KParam:   {"p", "wy", ""},
	api.KBlock:   {"b", "", "s*"},
	api.KSet:     {"s", "", "t[te]"},
	api.KLet:     {"s", "w", "[te]"},
	api.KGo:      {"s", "w", "[te]*"},
	api.KCall:    {"s", "w", "[te]*"},
	api.KLock:    {"s", "w", ""},
	api.KUnlock:  {"s", "w", ""},
	api.KSend:    {"s", "w", "[te]"},
	api.KRecv:    {"s", "w", "t"},
	api.KAdd:     {"s", "w", "[te]"},
	api.KPut:     {"s", "w", "[te]"},
	api.KGet:     {"s", "w", "t"},
	api.KIf:      {"s", "", "[te]bb?"},
	api.KWhile:   {"s", "", "[te]b"},
	api.KReturn:  {"s", "", ""},
	api.KFail:    {"s", "", "[te]"},
	api.KInt:     {"e", "n", ""},
	api.KFloat:   {"e", "f", ""},
	api.KBool:    {"e", "v", ""},
	api.KName:    {"t", "w", ""},
	api.KIndex:   {"t", "w", "[te]"},
	api.KUnary:   {"e", "u", "[te]"},
	api.KBinary:  {"e", "o", "[te][te]"},
}

var kidForms = func() map[int]*regexp.Regexp {
	forms := map[int]*regexp.Regexp{}
	for kind, s := range shapes {
		forms[kind] = regexp.MustCompile("^(?:" + s.kids + ")$")
	}
	return forms
}()

const keywords = "add atomic bool chan else fail false float func get go if int lock mutex put recv return send true unlock var while"

var wordForm = regexp.MustCompile(`^[A-Za-z_][A-Za-z0-9_]{0,23}\z`)

func isWord(s string) bool {
	return wordForm.MatchString(s) && !slices.Contains(strings.Fields(keywords), s)
}

// formed is whether a tree is in form by the table, whatever it stands for.
func formed(n api.Node) bool {
	s, known := shapes[n.Kind]
	letters := ""
	for _, kid := range n.Kids {
		letters += shapes[kid.Kind].letter + "?"[min(1, len(shapes[kid.Kind].letter)):]
	}
	has := func(field string) bool { return strings.Contains(s.fields, field) }
	switch {
	case !known, n.Size != 0, n.Obj != 0, !regexp.MustCompile("^(?:" + s.kids + ")$").MatchString(letters):
		return false
	case has("w") && !isWord(n.Name), has("u") && !slices.Contains([]string{"-", "!", "int", "float"}, n.Name):
		return false
	case has("o") && !slices.Contains(slices.Concat(ranks...), n.Name), !has("w") && !has("u") && !has("o") && n.Name != "":
		return false
	case has("y") && (n.Type < 1 || n.Type > 3), !has("y") && n.Type != 0:
		return false
	case has("n") && n.N < 0, has("v") && n.N != 0 && n.N != 1, has("k") && n.N != len(n.Kids)-1:
		return false
	case !has("n") && !has("v") && !has("k") && n.N != 0, !has("f") && n.Bits != 0:
		return false
	}
	return !slices.ContainsFunc(n.Kids, func(kid api.Node) bool { return !formed(kid) })
}

// wantForm holds all calls against the table, on a tree as it is and as each part of a program.
func wantForm(t *testing.T, n api.Node) {
	t.Helper()
	wantFormIn(t, n, wholes(n))
}

// homes is in which parts of a program a tree can stand.
func homes(n api.Node) []int {
	var at []int
	for i, whole := range wholes(n) {
		if formed(whole) {
			at = append(at, i)
		}
	}
	return at
}

// wantFormAt is wantForm in some parts of a program alone.
func wantFormAt(t *testing.T, n api.Node, at []int) {
	t.Helper()
	in, all := []api.Node{n}, wholes(n)
	for _, i := range at {
		in = append(in, all[i])
	}
	wantFormIn(t, n, in)
}

func wantFormIn(t *testing.T, n api.Node, in []api.Node) {
	t.Helper()
	if t.Failed() { // of many thousand trees the first wrong one tells enough
		return
	}
	right := formed(n)
	letter := shapes[n.Kind].letter
	if right && strings.Contains("te", letter) && letter != "" {
		if _, err := show.Expr(n); err != nil {
			t.Errorf("Expr(%s): %v, want none", tell(n), err)
		}
	} else {
		wantNoExpr(t, n)
	}
	for _, whole := range in {
		if formed(whole) && whole.Kind == api.KProgram {
			if err := show.Check(whole); err != nil {
				t.Errorf("Check(%s): %v, want none", tell(whole), err)
			}
			if _, err := show.Text(whole); err != nil {
				t.Errorf("Text(%s): %v, want none", tell(whole), err)
			}
		} else {
			wantNoProgram(t, whole)
		}
	}
}

// wholes is a tree as it is, and as each part of a program that there is.
func wholes(n api.Node) []api.Node {
	x, one, no := name("x"), number(1), block()
	in := func(s api.Node) api.Node { return program(function("f", block(s))) }
	return []api.Node{
		n, program(n), program(n, node(api.KMutex, "m")), program(node(api.KMutex, "m"), n),
		program(function("f", n)), program(function("f", no, n)), program(function("f", no, param("p", 1), n)),
		in(n), in(node(api.KSet, "", n, one)), in(node(api.KSet, "", x, n)), in(node(api.KLet, "y", n)),
		in(node(api.KGo, "f", n)), in(node(api.KGo, "f", one, n)), in(node(api.KCall, "f", n)), in(node(api.KCall, "f", n, one)),
		in(node(api.KLock, "m", n)), in(node(api.KUnlock, "m", n)), in(node(api.KSend, "c", n)), in(node(api.KRecv, "c", n)),
		in(node(api.KAdd, "k", n)), in(node(api.KPut, "k", n)), in(node(api.KGet, "k", n)),
		in(node(api.KIf, "", n)), in(node(api.KIf, "", n, no)), in(node(api.KIf, "", x, n)), in(node(api.KIf, "", x, no, n)), in(node(api.KIf, "", x, no, no, n)),
		in(node(api.KWhile, "", n)), in(node(api.KWhile, "", n, no)), in(node(api.KWhile, "", x, n)), in(node(api.KWhile, "", x, no, n)),
		in(node(api.KReturn, "", n)), in(node(api.KFail, "", n)), in(node(api.KFail, "", one, n)),
		in(node(api.KFail, "", index("a", n))), in(node(api.KFail, "", unary("!", n))), in(node(api.KFail, "", unary("int", n))),
		in(node(api.KFail, "", binary("+", n, one))), in(node(api.KFail, "", binary("<", one, n))),
		in(node(api.KFail, "", node(api.KName, "x", n))), in(node(api.KFail, "", node(api.KInt, "", n))),
		in(node(api.KFail, "", node(api.KFloat, "", n))), in(node(api.KFail, "", node(api.KBool, "", n))),
	}
}

// samples is a node in form of each kind, of some several.
func samples() []api.Node {
	x, one, no := name("x"), number(1), block()
	return []api.Node{
		program(), program(node(api.KMutex, "m")),
		{Kind: api.KVar, Name: "x", Type: api.TInt}, {Kind: api.KArray, Name: "a", Type: api.TBool, N: 3},
		node(api.KMutex, "m"), {Kind: api.KChan, Name: "c", Type: api.TFloat}, node(api.KAtomic, "k"),
		function("f", no), function("f", block(node(api.KReturn, "")), param("p", api.TInt), param("q", api.TFloat)), param("p", api.TBool),
		no, block(node(api.KLock, "m")), node(api.KSet, "", x, one), node(api.KSet, "", index("a", one), x), node(api.KLet, "x", one),
		node(api.KGo, "f"), node(api.KGo, "f", one, x), node(api.KCall, "f"), node(api.KCall, "f", x, one, one),
		node(api.KLock, "m"), node(api.KUnlock, "m"), node(api.KSend, "c", one), node(api.KRecv, "c", x), node(api.KAdd, "k", one),
		node(api.KPut, "k", one), node(api.KGet, "k", index("a", x)),
		node(api.KIf, "", x, no), node(api.KIf, "", x, no, block(node(api.KReturn, ""))), node(api.KWhile, "", x, no),
		node(api.KReturn, ""), node(api.KFail, "", one),
		one, float(1), truth(1), x, index("a", one), unary("-", one), unary("int", x), binary("<=", one, x),
	}
}

func TestSamples(t *testing.T) {
	seen := map[int]bool{}
	for _, n := range samples() {
		if seen[n.Kind] = true; !formed(n) {
			t.Errorf("%s isn't in form", tell(n))
		}
		wantForm(t, n)
	}
	if len(seen) != len(shapes) {
		t.Errorf("%d kinds, want %d", len(seen), len(shapes))
	}
}

// TestKinds: a node of each kind stands in each part of a program; a kind that layer 8 makes, or none at all, never does.
func TestKinds(t *testing.T) {
	t.Parallel()
	for _, n := range samples() {
		for kind := -1; kind <= api.KElem+2; kind++ {
			other := n
			other.Kind = kind
			wantForm(t, other)
		}
	}
	wantNoProgram(t, api.Node{})
	wantNoExpr(t, api.Node{})
	for _, kind := range []int{0, -1, math.MinInt, math.MaxInt, api.KLocal, api.KPlace, api.KElem} {
		wantForm(t, api.Node{Kind: kind})
		wantForm(t, api.Node{Kind: kind, Name: "x"})
		wantForm(t, api.Node{Kind: kind, Size: 1, Kids: []api.Node{number(1)}})
	}
}

// TestFields: each field of each kind with values at and past its range's ends, and where it has to be zero.
func TestFields(t *testing.T) {
	t.Parallel()
	numbers := []int{math.MinInt, -2, -1, 0, 1, 2, 3, 4, 5, math.MaxInt}
	for _, n := range samples() {
		at := homes(n)
		for _, v := range numbers {
			for field := range 5 {
				other := n
				*[]*int{&other.At, &other.Type, &other.N, &other.Size, &other.Obj}[field] = v
				wantFormAt(t, other, at)
			}
		}
		for _, bits := range []uint64{0, 1, 1 << 63, math.MaxUint64} {
			other := n
			other.Bits = bits
			wantFormAt(t, other, at)
		}
		for _, text := range names() {
			other := n
			other.Name = text
			wantFormAt(t, other, at)
		}
	}
}

// names is words, keywords, operators, and what is none of these.
func names() []string {
	long := strings.Repeat("a", 24)
	list := []string{"", "x", "X", "_", "__", "x1", "_1", "z9Z_", long, long + "a", long[:23] + "9", "9" + long[:23], strings.Repeat("_", 25), strings.Repeat("x", 9000),
		"1", "1x", "0", "x ", " x", "x y", "x\n", "x//", "//", "x;", "x-", "#3ff0000000000000", "\x00", "x\x00", "é", "xé", "\xff", "@", "[", "`", "{", "/", ":", "=", ":=",
		"If", "IF", "ifs", "trues", "main", "--", "!!", "-!", "!==", "<<", "&", "|", "&&&", "(", ")", "int ", "int(", "- ", " -"}
	list = append(list, strings.Fields(keywords)...)
	return append(list, slices.Concat(ranks...)...)
}

// TestKids: each kind with a kid left out, twice there, put in, changed for another, or with two kids in the other order.
func TestKids(t *testing.T) {
	t.Parallel()
	for _, n := range samples() {
		at := homes(n)
		other := n
		for i := range n.Kids {
			other.Kids = slices.Delete(slices.Clone(n.Kids), i, i+1)
			wantFormAt(t, other, at)
			other.Kids = slices.Insert(slices.Clone(n.Kids), i, n.Kids[i])
			wantFormAt(t, other, at)
			if i > 0 {
				other.Kids = slices.Clone(n.Kids)
				other.Kids[i-1], other.Kids[i] = other.Kids[i], other.Kids[i-1]
				wantFormAt(t, other, at)
			}
		}
		for _, kid := range append(samples(), api.Node{}, api.Node{Kind: api.KLocal}, api.Node{Kind: api.KPlace}, node(api.KMutex, "if")) {
			for i := range len(n.Kids) + 1 {
				other.Kids = slices.Insert(slices.Clone(n.Kids), i, kid)
				wantFormAt(t, other, at)
				if n.Kind == api.KFunc { // with a parameter more that is told
					more := other
					more.N++
					wantFormAt(t, more, at)
				}
				if i < len(n.Kids) {
					other.Kids = slices.Clone(n.Kids)
					other.Kids[i] = kid
					wantFormAt(t, other, at)
				}
			}
		}
		other.Kids = []api.Node{}
		wantFormAt(t, other, at)
	}
}

// TestOneWrongNode: a program is refused for one node, wherever it stands.
func TestOneWrongNode(t *testing.T) {
	t.Parallel()
	var whole api.Node
	for _, n := range samples() {
		if shapes[n.Kind].letter == "d" {
			whole.Kids = append(whole.Kids, n)
		}
	}
	var stmts []api.Node
	for _, n := range samples() {
		if shapes[n.Kind].letter == "s" {
			stmts = append(stmts, n)
		}
	}
	whole.Kind = api.KProgram
	whole.Kids = append(whole.Kids, function("g", block(node(api.KWhile, "", truth(0), block(stmts...)))), node(api.KMutex, "last"))
	if err := show.Check(whole); err != nil {
		t.Fatal(err)
	}
	for i := range count(whole) {
		for what, change := range map[string]func(*api.Node){
			"At":   func(n *api.Node) { n.At = -5 },
			"Size": func(n *api.Node) { n.Size = 1 },
			"Obj":  func(n *api.Node) { n.Obj = -1 },
			"Kind": func(n *api.Node) { n.Kind = api.KElem },
			"Name": func(n *api.Node) { n.Name = "while" },
			"kid":  func(n *api.Node) { n.Kids = append(slices.Clone(n.Kids), program()) },
		} {
			n, at := whole, i
			change(find(&n, &at))
			if err := show.Check(n); (err == nil) != (what == "At") {
				t.Errorf("node %d, %s: %v", i, what, err)
			}
			wantForm(t, n)
		}
	}
}

func count(n api.Node) int {
	total := 1
	for _, kid := range n.Kids {
		total += count(kid)
	}
	return total
}

// find is a node of a tree by its number, the tree above it copied, so that it may be changed.
func find(n *api.Node, at *int) *api.Node {
	if *at == 0 {
		return n
	}
	n.Kids = slices.Clone(n.Kids)
	for i := range n.Kids {
		*at--
		if found := find(&n.Kids[i], at); found != nil {
			return found
		}
	}
	return nil
}

func TestErrorIsTheTable(t *testing.T) {
	if got := fmt.Sprint(show.Check(api.Node{})); got != "stockade: code" {
		t.Error(got)
	}
}
