package kind_test

import (
	"maps"
	"math/rand"
	"reflect"
	"slices"
	"strings"
	"testing"

	"stockade/api"
	"stockade/kind"
	"stockade/scope"
	"stockade/token"
	"stockade/tree"
)

// The tests of P9.1 and P9.2 on many programs: what is typed by a model that first writes down, in the order that the chapter tells, what is asked of a function's nodes, and then goes through that list.

// A question is asked of a node, whose kids' types are told by then.
type question struct {
	ask  string
	n    *api.Node
	kid  int // of "kid": which one
	want int // and of which type it has to be
}

// questions is what is asked of a tree; the nodes are the tree's own.
func questions(p api.Program, n *api.Node) []question {
	var list []question
	wants := slices.Repeat([]int{-1}, len(n.Kids)) // -1: nothing is asked of that kid
	switch n.Kind {
	case api.KGo, api.KCall:
		list = append(list, question{ask: "count", n: n})
		for i := range n.Kids {
			if i < p.Funcs[n.Obj].Params {
				wants[i] = p.Funcs[n.Obj].Locals[i]
			}
		}
	case api.KSend, api.KRecv:
		wants[0] = p.Chans[n.Obj].Type
	case api.KAdd, api.KPut, api.KGet, api.KFail:
		wants[0] = api.TInt
	case api.KIf, api.KWhile:
		wants[0] = api.TBool
	}
	for i := range n.Kids {
		list = append(list, questions(p, &n.Kids[i])...)
		if wants[i] >= 0 {
			list = append(list, question{"kid", n, i, wants[i]})
		}
	}
	return append(list, question{ask: "own", n: n})
}

// answer is whether what is asked holds, of a function whose locals' types are told so far; then the node's type is told.
func answer(p api.Program, f api.Func, q question) bool {
	n := q.n
	kid := func(i int) string { return typeNames[n.Kids[i].Type] }
	switch {
	case q.ask == "count":
		return len(n.Kids) == p.Funcs[n.Obj].Params
	case q.ask == "kid":
		return n.Kids[q.kid].Type == q.want
	case n.Kind == api.KSet:
		return kid(0) == kid(1)
	case n.Kind == api.KLet:
		if f.Locals[n.N] == 0 {
			f.Locals[n.N] = n.Kids[0].Type
		}
		return f.Locals[n.N] == n.Kids[0].Type
	case n.Kind < api.KInt:
		return true
	case n.Kind == api.KLocal:
		n.Type = f.Locals[n.N]
	case n.Kind == api.KPlace, n.Kind == api.KElem && kid(0) == "int":
		n.Type = p.Places[n.N]
	case n.Kind == api.KUnary:
		n.Type = max(0, slices.Index(typeNames, table[n.Name+" "+kid(0)]))
	case n.Kind == api.KBinary:
		n.Type = max(0, slices.Index(typeNames, table[n.Name+" "+kid(0)+" "+kid(1)]))
	case n.Kind != api.KElem:
		n.Type = 1 + n.Kind - api.KInt
	}
	return n.Type != 0
}

// modelCheck types a good program.
func modelCheck(p api.Program) (api.Program, api.Bad) {
	p = apart(p)
	for _, n := range nodesOf(p) {
		n.Type = 0
	}
	for _, f := range p.Funcs {
		clear(f.Locals[f.Params:])
		for _, q := range questions(p, &f.Block) {
			if answer(p, f, q) {
				continue
			}
			if q.ask == "kid" {
				return api.Program{}, api.Bad{Err: api.ErrType, At: q.n.Kids[q.kid].At}
			}
			return api.Program{}, api.Bad{Err: api.ErrType, At: q.n.At}
		}
	}
	return p, api.Bad{}
}

// usesOf is the uses of operators that have a type, for each one.
var usesOf = func() map[int][]string {
	uses := map[int][]string{}
	for _, with := range slices.Sorted(maps.Keys(table)) {
		own := slices.Index(typeNames, table[with])
		uses[own] = append(uses[own], with)
	}
	return uses
}()

// A maker makes random programs: what stands there is of the wanted type more often than not.
type maker struct {
	*rand.Rand
	api.Program
	f     *api.Func
	types []int // of the function's locals, as they are likely to be
	wrong int   // one of so many is wrong
}

func pick[T any](r *rand.Rand, list []T) T {
	return list[r.Intn(len(list))]
}

// want is a type, or by chance another one.
func (m *maker) want(t int) int {
	if m.Intn(m.wrong) == 0 {
		return 1 + m.Intn(3)
	}
	return t
}

// indexes is where in a list a type stands.
func indexes(list []int, t int) []int {
	var at []int
	for i, v := range list {
		if v == t {
			at = append(at, i)
		}
	}
	return at
}

func (m *maker) target(t int) api.Node {
	locals, places := indexes(m.types, m.want(t)), indexes(m.Places, m.want(t))
	if len(locals) > 0 && m.Intn(2) == 0 {
		return local(pick(m.Rand, locals))
	}
	first := pick(m.Rand, places)
	if m.Intn(2) == 0 {
		return place(first)
	}
	size := 1
	for first+size < len(m.Places) && m.Places[first+size] == m.Places[first] && m.Intn(3) > 0 {
		size++
	}
	return elem(first, size, m.expr(api.TInt, m.Intn(2)))
}

func (m *maker) expr(t, deep int) api.Node {
	t = m.want(t)
	if deep == 0 || m.Intn(4) == 0 {
		if m.Intn(2) == 0 {
			return m.target(t)
		}
		return []api.Node{{}, number(m.Intn(9)), float(m.Uint64()), truth(m.Intn(2))}[t]
	}
	parts := strings.Fields(pick(m.Rand, usesOf[t]))
	n := op(parts[0], make([]api.Node, len(parts)-1)...)
	for i, part := range parts[1:] {
		n.Kids[i] = m.expr(slices.Index(typeNames, part), deep-1)
	}
	if m.Intn(m.wrong*10) == 0 {
		n.Name = pick(m.Rand, slices.Concat(unaries, binaries, []string{"", "?"}))
	}
	return n
}

func (m *maker) block(deep int) api.Node {
	b := block()
	for range m.Intn(7) {
		b.Kids = append(b.Kids, m.stmt(deep))
	}
	return b
}

func (m *maker) stmt(deep int) api.Node {
	switch m.Intn(12) {
	case 0, 1:
		t := 1 + m.Intn(3)
		return node(api.KSet, m.target(t), m.expr(t, 3))
	case 2, 3, 4:
		return m.let()
	case 5, 6:
		return m.call()
	case 7:
		i := m.Intn(len(m.Chans))
		if m.Intn(2) == 0 {
			return does(api.KSend, i, m.expr(m.Chans[i].Type, 2))
		}
		return does(api.KRecv, i, m.target(m.Chans[i].Type))
	case 8:
		if m.Intn(3) == 0 {
			return does(api.KGet, m.Intn(m.Atomics), m.target(api.TInt))
		}
		return does(pick(m.Rand, []int{api.KAdd, api.KPut}), m.Intn(m.Atomics), m.expr(api.TInt, 2))
	case 9:
		return pick(m.Rand, []api.Node{node(api.KReturn), node(api.KFail, m.expr(api.TInt, 2)), does(api.KLock, m.Intn(m.Mutexes)), does(api.KUnlock, m.Intn(m.Mutexes))})
	}
	if deep == 0 {
		return node(api.KReturn)
	}
	n := node(pick(m.Rand, []int{api.KIf, api.KWhile, api.KIf}), m.expr(api.TBool, 2), m.block(deep-1))
	if n.Kind == api.KIf && m.Intn(2) == 0 {
		n.Kids = append(n.Kids, m.block(deep-1))
	}
	return n
}

func (m *maker) let() api.Node {
	if len(m.types) == m.f.Params {
		return node(api.KReturn)
	}
	i := m.f.Params + m.Intn(len(m.types)-m.f.Params)
	if m.types[i] == 0 {
		m.types[i] = 1 + m.Intn(3)
		e := m.expr(m.types[i], 0) // of no locals, more often than not
		return let(i, e)
	}
	return let(i, m.expr(m.types[i], 3))
}

func (m *maker) call() api.Node {
	i := m.Intn(len(m.Funcs))
	n := does(pick(m.Rand, []int{api.KGo, api.KCall}), i)
	for _, t := range m.Funcs[i].Locals[:m.Funcs[i].Params] {
		n.Kids = append(n.Kids, m.expr(t, 2))
	}
	if m.Intn(m.wrong) == 0 {
		n.Kids = append(n.Kids, m.expr(1+m.Intn(3), 2))[m.Intn(2):]
	}
	if len(n.Kids) > 0 && m.Intn(m.wrong) == 0 {
		n.Kids = n.Kids[1:]
	}
	return n
}

// randomTypes is a row of types.
func randomTypes(r *rand.Rand, many int) []int {
	list := make([]int, many)
	for i := range list {
		list[i] = 1 + r.Intn(3)
	}
	return list
}

// randomProgram is a good program of which one of so many parts has the wrong type.
func randomProgram(r *rand.Rand, wrong int) api.Program {
	m := &maker{Rand: r, wrong: wrong}
	m.Places = append([]int{1, 1, 1, 2, 2, 3, 3, 3}, randomTypes(r, r.Intn(6))...)
	m.Mutexes, m.Atomics = 2, 3
	for _, t := range []int{1, 2, 3, 1 + r.Intn(3)} {
		m.Chans = append(m.Chans, api.Chan{Type: t, Room: r.Intn(api.MaxRoom + 1)})
	}
	for i := range 1 + r.Intn(4) {
		f := api.Func{Params: min(i, 1) * r.Intn(api.MaxParams+1)}
		f.Locals = append(randomTypes(r, f.Params), make([]int, r.Intn(8))...)
		m.Funcs = append(m.Funcs, f)
	}
	for i := range m.Funcs {
		m.f = &m.Funcs[i]
		m.types = append(slices.Clone(m.f.Locals[:m.f.Params]), make([]int, len(m.f.Locals)-m.f.Params)...)
		m.f.Block = m.block(3)
	}
	p := apart(m.Program) // as parts may stand in it twice
	next := 0
	for _, n := range nodesOf(p) {
		next += 1 + r.Intn(3)
		n.At = next
	}
	return p
}

// scrambled is a program whose nodes and locals have any types already.
func scrambled(r *rand.Rand, p api.Program) api.Program {
	p = apart(p)
	for _, n := range nodesOf(p) {
		n.Type = r.Intn(6) - 1
	}
	for _, f := range p.Funcs {
		for i := f.Params; i < len(f.Locals); i++ {
			f.Locals[i] = r.Intn(6) - 1
		}
	}
	return p
}

// checked holds all calls that take a program against the model.
func checked(t *testing.T, p api.Program) (api.Program, api.Bad) {
	t.Helper()
	if scope.Good(p) != nil {
		t.Fatalf("%+v isn't good", p)
	}
	want, bad := modelCheck(p)
	got, gotBad := kind.Check(p)
	if gotBad != bad || !scope.Same(got, want) || !slices.Equal(bytesOf(got), bytesOf(want)) {
		t.Fatalf("Check(%+v): %+v, %v, want %+v, %v", p, got, gotBad, want, bad)
	}
	if err := kind.Typed(p); (err == nil) != (bad.Err == nil && scope.Same(p, want)) || err != nil && err != api.ErrCode {
		t.Fatalf("Typed(%+v): %v", p, err)
	}
	return got, bad
}

// TestRandomPrograms: with many and with few wrong types, so that errors come from all parts, and a good many are right.
func TestRandomPrograms(t *testing.T) {
	t.Parallel()
	times := 6000
	if testing.Short() {
		times = 1500
	}
	r := rand.New(rand.NewSource(21))
	right, wrongAt, most := 0, map[int]int{}, 0
	for range times {
		p := randomProgram(r, pick(r, []int{5, 20, 100, 1000, 1000}))
		q, bad := checked(t, p)
		if again, badAgain := checked(t, scrambled(r, p)); badAgain != bad || !reflect.DeepEqual(again, q) {
			t.Fatalf("%+v with other types: %+v, %v, want %+v, %v", p, again, badAgain, q, bad)
		}
		if bad.Err != nil {
			wrongAt[kindAt(p, bad.At)]++
			continue
		}
		right++
		most = max(most, len(nodesOf(p)))
		if again, bad := checked(t, q); bad != (api.Bad{}) || !reflect.DeepEqual(again, q) || kind.Typed(q) != nil {
			t.Fatalf("%+v isn't typed", q)
		}
	}
	if testing.Short() { // too few to come to all
		return
	}
	for k := api.KInt; k <= api.KElem; k++ {
		if k != api.KName && k != api.KIndex && wrongAt[k] < times/1000 {
			t.Errorf("kind %d: %d errors", k, wrongAt[k])
		}
	}
	for _, k := range []int{api.KSet, api.KLet, api.KGo, api.KCall} {
		if wrongAt[k] < times/1000 {
			t.Errorf("kind %d: %d errors", k, wrongAt[k])
		}
	}
	if right < times/5 || most < 150 {
		t.Errorf("%d of %d are right, of at most %d nodes", right, times, most)
	}
}

// kindAt is which kind of node stands at a byte.
func kindAt(p api.Program, byte int) int {
	for _, n := range nodesOf(p) {
		if n.At == byte {
			return n.Kind
		}
	}
	return 0
}

// TestChangedTexts: a text of which a token was left out, doubled or changed for another one is what the layers below and the model make of it.
func TestChangedTexts(t *testing.T) {
	t.Parallel()
	src := inFunc("x := -pi < 2 && pb; af[ai[0]] = float(pi) * pf; if x { y := f; send cf, y + pf; } else { recv cb, ab[i % 2]; } while !b == x { get k, ai[1]; two(i, x); go four(1, f, b, pi); } fail int(#0000000000000001); add k, i;")
	tokens, bad := token.Tokens(src)
	if bad.Err != nil {
		t.Fatal(bad)
	}
	var words []string
	for _, one := range tokens {
		words = append(words, one.Text)
	}
	others := []string{"1", "#0000000000000001", "true", "i", "f", "b", "x", "y", "pi", "pf", "pb", "ai", "ci", "cf", "-", "!", "+", "%", "<", "==", "&&", "int", "float", "bool", "(", ")", "fi", "two", ";", ","}
	errors := map[error]int{}
	wantAs := func(words []string) {
		t.Helper()
		text := strings.Join(words, " ")
		want, bad := layers(text)
		errors[bad.Err]++
		if got, gotBad := kind.Build(text); gotBad != bad || !scope.Same(got, want) || !slices.Equal(bytesOf(got), bytesOf(want)) {
			t.Fatalf("Build(%s): %+v, %v, want %+v, %v", text, got, gotBad, want, bad)
		}
	}
	for i, word := range words {
		wantAs(slices.Delete(slices.Clone(words), i, i+1))
		wantAs(slices.Insert(slices.Clone(words), i, word))
		for _, other := range others {
			changed := slices.Clone(words)
			changed[i] = other
			wantAs(changed)
		}
	}
	for _, err := range []error{nil, api.ErrText, api.ErrName, api.ErrType} {
		if errors[err] < 100 {
			t.Errorf("%v: %d times", err, errors[err])
		}
	}
}

// layers is a text's program by the layers below and the model.
func layers(text string) (api.Program, api.Bad) {
	n, bad := tree.Parse(text)
	if bad.Err != nil {
		return api.Program{}, bad
	}
	p, bad := scope.Resolve(n)
	if bad.Err != nil {
		return api.Program{}, bad
	}
	return modelCheck(p)
}
