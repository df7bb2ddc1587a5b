package scope_test

import (
	"fmt"
	"math/rand"
	"reflect"
	"slices"
	"testing"

	"stockade/api"
	"stockade/scope"
)

// The tests of P8.1 and P8.2 on many programs: what is resolved by a model that first writes down, in order of the text, what a block does with names, and then goes through that list.

// A step is what a block does with names: "{" and "}", "declare", or a use of a name of a kind.
type step struct {
	do string
	n  *api.Node
}

// uses is of which kind the name has to be that a kind of node uses.
var uses = map[int]string{
	api.KName: "variable", api.KIndex: "array", api.KGo: "function", api.KCall: "function", api.KLock: "mutex", api.KUnlock: "mutex",
	api.KSend: "channel", api.KRecv: "channel", api.KAdd: "atomic", api.KPut: "atomic", api.KGet: "atomic",
}

// steps is what a tree does; the nodes are the tree's own.
func steps(n *api.Node) []step {
	var list []step
	for i := range n.Kids {
		list = append(list, steps(&n.Kids[i])...)
	}
	switch {
	case n.Kind == api.KBlock:
		return slices.Concat([]step{{"{", n}}, list, []step{{"}", n}})
	case n.Kind == api.KLet:
		return append(list, step{"declare", n})
	case uses[n.Kind] != "":
		return append([]step{{uses[n.Kind], n}}, list...)
	}
	return list
}

// A global is a declaration, and its number.
type global struct {
	kind, name   string
	number, size int
}

// modelGlobals is the declarations of a program, or what is wrong with them.
func modelGlobals(n api.Node) (list []global, bad api.Bad) {
	kinds := map[int]string{api.KVar: "variable", api.KArray: "array", api.KMutex: "mutex", api.KChan: "channel", api.KAtomic: "atomic", api.KFunc: "function"}
	for i, d := range n.Kids {
		g := global{kind: kinds[d.Kind], name: d.Name, size: d.N}
		objects, places, funcs := 0, 0, 0
		for k, e := range n.Kids[:i+1] {
			if k < i && e.Name == d.Name {
				return nil, api.Bad{Err: api.ErrName, At: d.At}
			}
			if k < i && e.Kind == d.Kind {
				g.number++
			}
			switch e.Kind {
			case api.KFunc:
				funcs++
				continue
			case api.KVar:
				places++
			case api.KArray:
				places += e.N
			}
			objects++
		}
		switch {
		case d.Kind == api.KArray && (d.N < 1 || d.N > 64), d.Kind == api.KChan && d.N > 8:
			return nil, api.Bad{Err: api.ErrRange, At: d.At}
		case objects > 32, places > 128, funcs > 16, d.Kind == api.KFunc && d.N > 4:
			return nil, api.Bad{Err: api.ErrLarge, At: d.At}
		case d.Kind == api.KVar:
			g.number = places - 1
		case d.Kind == api.KArray:
			g.number = places - d.N
		}
		list = append(list, g)
	}
	return list, api.Bad{}
}

// modelFunc resolves a function.
func modelFunc(globals []global, d api.Node) (api.Func, api.Bad) {
	f := api.Func{Name: d.Name, Params: d.N, Block: deep(d.Kids[d.N])}
	var names []string // of all locals; those that can't be used any more have none
	declared := func(name string) bool {
		return slices.Contains(names, name) || slices.ContainsFunc(globals, func(g global) bool { return g.name == name })
	}
	for _, param := range d.Kids[:d.N] {
		if declared(param.Name) {
			return api.Func{}, api.Bad{Err: api.ErrName, At: param.At}
		}
		names, f.Locals = append(names, param.Name), append(f.Locals, param.Type)
	}
	var opened []int // how many locals there were
	for _, s := range steps(&f.Block) {
		g := slices.IndexFunc(globals, func(g global) bool { return g.kind == s.do && g.name == s.n.Name })
		l := slices.Index(names, s.n.Name)
		switch {
		case s.do == "{":
			opened = append(opened, len(names))
		case s.do == "}":
			last := len(opened) - 1
			clear(names[opened[last]:])
			opened = opened[:last]
		case s.do == "declare" && declared(s.n.Name):
			return api.Func{}, api.Bad{Err: api.ErrName, At: s.n.At}
		case s.do == "declare" && len(names) == 32:
			return api.Func{}, api.Bad{Err: api.ErrLarge, At: s.n.At}
		case s.do == "declare":
			s.n.N = len(names)
			names, f.Locals = append(names, s.n.Name), append(f.Locals, 0)
		case s.do == "variable" && l >= 0:
			s.n.Kind, s.n.Name, s.n.N = api.KLocal, "", l
		case g < 0:
			return api.Func{}, api.Bad{Err: api.ErrName, At: s.n.At}
		case s.do == "variable":
			s.n.Kind, s.n.Name, s.n.N = api.KPlace, "", globals[g].number
		case s.do == "array":
			s.n.Kind, s.n.Name, s.n.N, s.n.Size = api.KElem, "", globals[g].number, globals[g].size
		default:
			s.n.Obj = globals[g].number
		}
	}
	return f, api.Bad{}
}

// modelResolve resolves a tree that is in form.
func modelResolve(n api.Node) (api.Program, api.Bad) {
	globals, bad := modelGlobals(n)
	if bad.Err != nil {
		return api.Program{}, bad
	}
	p := api.Program{Main: -1}
	for i, d := range n.Kids {
		switch d.Kind {
		case api.KVar:
			p.Places = append(p.Places, d.Type)
		case api.KArray:
			p.Places = append(p.Places, slices.Repeat([]int{d.Type}, d.N)...)
		case api.KMutex:
			p.Mutexes++
		case api.KAtomic:
			p.Atomics++
		case api.KChan:
			p.Chans = append(p.Chans, api.Chan{Type: d.Type, Room: d.N})
		case api.KFunc:
			if d.Name == "main" && d.N == 0 {
				p.Main = globals[i].number
			}
		}
	}
	if p.Main < 0 {
		return api.Program{}, api.Bad{Err: api.ErrNone}
	}
	for _, d := range n.Kids {
		if d.Kind == api.KFunc {
			f, bad := modelFunc(globals, d)
			if bad.Err != nil {
				return api.Program{}, bad
			}
			p.Funcs = append(p.Funcs, f)
		}
	}
	return p, api.Bad{}
}

func pick[T any](r *rand.Rand, list ...T) T {
	return list[r.Intn(len(list))]
}

// pool is names of which programs are made: some are declared often, others are locals more often than not.
var pool = []string{"main", "v", "w", "a", "b", "m", "c", "k", "f", "g", "x", "y", "z", "p", "q"}

func anyName(r *rand.Rand) string {
	return pick(r, pool...)
}

func name(text string) api.Node {
	return api.Node{Kind: api.KName, Name: text}
}

func index(text string, kid api.Node) api.Node {
	return api.Node{Kind: api.KIndex, Name: text, Kids: []api.Node{kid}}
}

func randomExpr(r *rand.Rand, deep int) api.Node {
	if deep == 0 || r.Intn(3) == 0 {
		return pick(r, number(r.Intn(3)), truth(r.Intn(2)), api.Node{Kind: api.KFloat, Bits: r.Uint64()}, name(pick(r, "v", "w", "x", "y", "p", anyName(r))))
	}
	switch r.Intn(5) {
	case 0:
		return index(pick(r, "a", "b", anyName(r)), randomExpr(r, deep-1))
	case 1:
		return api.Node{Kind: api.KUnary, Name: pick(r, "-", "!", "int", "float"), Kids: []api.Node{randomExpr(r, deep-1)}}
	}
	return api.Node{Kind: api.KBinary, Name: pick(r, "+", "<", "&&", "%"), Kids: []api.Node{randomExpr(r, deep-1), randomExpr(r, deep-1)}}
}

func randomTarget(r *rand.Rand) api.Node {
	return pick(r, name(pick(r, "v", "x", anyName(r))), index(pick(r, "a", anyName(r)), randomExpr(r, 1)))
}

func randomBlock(r *rand.Rand, deep int) api.Node {
	b := block()
	for range r.Intn(6) {
		b.Kids = append(b.Kids, randomStmt(r, deep))
	}
	return b
}

func randomStmt(r *rand.Rand, deep int) api.Node {
	e := randomExpr(r, 2)
	if deep > 0 && r.Intn(3) == 0 {
		return pick(r, does0(api.KIf, e, randomBlock(r, deep-1)), does0(api.KWhile, e, randomBlock(r, deep-1)), does0(api.KIf, e, randomBlock(r, deep-1), randomBlock(r, deep-1)))
	}
	switch r.Intn(8) {
	case 0:
		return set(randomTarget(r), e)
	case 1:
		return does(pick(r, api.KGo, api.KCall), pick(r, "f", "g", "main", anyName(r)), 0, slices.Repeat([]api.Node{e}, r.Intn(3))...)
	case 2:
		return does(pick(r, api.KLock, api.KUnlock), pick(r, "m", anyName(r)), 0)
	case 3:
		return does(pick(r, api.KRecv, api.KGet), pick(r, "c", "k", anyName(r)), 0, randomTarget(r))
	case 4:
		return does(pick(r, api.KSend, api.KAdd, api.KPut), pick(r, "c", "k", "k", anyName(r)), 0, e)
	case 5:
		return pick(r, does0(api.KReturn), does0(api.KFail, e))
	}
	return let(pick(r, "x", "y", "z", "p", anyName(r)), 0, e)
}

func randomFunc(r *rand.Rand, name string) api.Node {
	n := api.Node{Kind: api.KFunc, Name: name}
	if name != "main" || r.Intn(20) == 0 {
		n.N = pick(r, 0, 1, 2, 3, 4, 5, 1, 2, 3)
	}
	for range n.N {
		n.Kids = append(n.Kids, api.Node{Kind: api.KParam, Name: pick(r, "p", "q", "x", "y", "z", anyName(r)), Type: 1 + r.Intn(3)})
	}
	n.Kids = append(n.Kids, randomBlock(r, 3))
	return n
}

// randomProgram is a program in form, with more or less wrong names in it; no two nodes stand at one place.
func randomProgram(r *rand.Rand) api.Node {
	n := api.Node{Kind: api.KProgram, Kids: []api.Node{
		{Kind: api.KVar, Name: "v", Type: 1 + r.Intn(3)}, {Kind: api.KVar, Name: "w", Type: 1 + r.Intn(3)},
		{Kind: api.KArray, Name: "a", Type: 1 + r.Intn(3), N: 1 + r.Intn(5)}, {Kind: api.KArray, Name: "b", Type: 1 + r.Intn(3), N: pick(r, 1, 7, 64, 64, 65, 0)},
		{Kind: api.KMutex, Name: "m"}, {Kind: api.KChan, Name: "c", Type: 1 + r.Intn(3), N: r.Intn(10)}, {Kind: api.KAtomic, Name: "k"},
		{Kind: pick(r, api.KMutex, api.KAtomic), Name: pick(r, "x", "z", "n", "o")},
		randomFunc(r, "main"), randomFunc(r, "f"), randomFunc(r, "g"),
	}}
	for range r.Intn(3) {
		n.Kids = slices.Delete(n.Kids, 0, 1)
	}
	r.Shuffle(len(n.Kids), func(i, k int) { n.Kids[i], n.Kids[k] = n.Kids[k], n.Kids[i] })
	for range r.Intn(2) {
		n.Kids[r.Intn(len(n.Kids))].Name = anyName(r)
	}
	n = deep(n)
	at := r.Intn(5)
	scatter(&n, &at)
	return n
}

func scatter(n *api.Node, at *int) {
	*at += 3
	n.At = *at
	for i := range n.Kids {
		scatter(&n.Kids[i], at)
	}
}

// mended is a tree in which what stands at a place has another name or number, or fewer parameters.
func mended(r *rand.Rand, n api.Node, at int) api.Node {
	n.Kids = slices.Clone(n.Kids)
	if n.At == at {
		n.Name = likely(r, n.Kind)
		if n.Kind == api.KFunc && n.N > 4 {
			n.N, n.Kids = 4, n.Kids[1:]
		}
		if n.Kind == api.KArray || n.Kind == api.KChan {
			n.N = 1 + n.N%8
		}
	}
	for i, kid := range n.Kids {
		n.Kids[i] = mended(r, kid, at)
	}
	return n
}

// likely is a name that may be right where a node of a kind has one.
func likely(r *rand.Rand, kind int) string {
	often := map[string][]string{"variable": {"v", "w", "x", "p"}, "array": {"a", "b"}, "function": {"f", "g", "main"}, "mutex": {"m"}, "channel": {"c"}, "atomic": {"k"}}[uses[kind]]
	if often == nil {
		often = []string{fmt.Sprint("u", r.Intn(1000))}
	}
	return pick(r, append(often, anyName(r))...)
}

// checked holds Resolve against the model, and asks that what it makes is good.
func checked(t *testing.T, n api.Node) (api.Program, api.Bad) {
	t.Helper()
	want, bad := modelResolve(n)
	got, gotBad := scope.Resolve(n)
	if bad != gotBad || !scope.Same(got, want) || bad.Err == nil && !reflect.DeepEqual(places(got), places(want)) {
		t.Fatalf("Resolve(%+v): %s, %v, want %s, %v", n, tell(got), gotBad, tell(want), bad)
	}
	if err := scope.Good(got); (err == nil) != (bad.Err == nil) {
		t.Fatalf("Good(Resolve(%+v)): %v", n, err)
	}
	return got, bad
}

// places is where the nodes of a program stand.
func places(p api.Program) []int {
	var list []int
	var walk func(n api.Node)
	walk = func(n api.Node) {
		list = append(list, n.At)
		for _, kid := range n.Kids {
			walk(kid)
		}
	}
	for _, f := range p.Funcs {
		walk(f.Block)
	}
	return list
}

// TestRandomPrograms: programs are mended where they are wrong, again and again, so that errors come from all parts of them, and most are right at last.
func TestRandomPrograms(t *testing.T) {
	t.Parallel()
	times := 300
	if testing.Short() {
		times = 60
	}
	r := rand.New(rand.NewSource(11))
	right, errors, locals := 0, map[error]int{}, 0
	for range times {
		n := randomProgram(r)
		for range 100 {
			p, bad := checked(t, n)
			renamed(t, n, p, bad)
			errors[bad.Err]++
			if bad.Err == nil {
				right++
				for _, f := range p.Funcs {
					locals = max(locals, len(f.Locals))
				}
				apart(t, n, p)
			}
			if bad.Err == nil || bad.Err == api.ErrNone {
				break
			}
			n = mended(r, n, bad.At)
		}
	}
	if right < times/3 || locals < 10 || errors[api.ErrName] < times || errors[api.ErrNone] < times/20 || errors[api.ErrRange] < times/20 || errors[api.ErrLarge] < times/20 {
		t.Errorf("%d of %d are right, at most %d locals, %v", right, times, locals, errors)
	}
}

// renamed asks for P8.2: with each name changed for another one, all that was told stays but names.
func renamed(t *testing.T, n api.Node, p api.Program, bad api.Bad) {
	t.Helper()
	other := func(text string) string {
		if text == "main" || text == "" {
			return text
		}
		return "new_" + text
	}
	got, gotBad := scope.Resolve(withNames(n, other))
	want := p
	want.Funcs = slices.Clone(p.Funcs)
	for i, f := range want.Funcs {
		want.Funcs[i].Name, want.Funcs[i].Block = other(f.Name), withNames(f.Block, other)
	}
	if gotBad != bad || !scope.Same(got, want) || !reflect.DeepEqual(places(got), places(want)) {
		t.Fatalf("%+v renamed: %s, %v, want %s, %v", n, tell(got), gotBad, tell(want), bad)
	}
}

// withNames is a tree whose names, but for operators, are changed.
func withNames(n api.Node, other func(string) string) api.Node {
	if n.Kind != api.KUnary && n.Kind != api.KBinary {
		n.Name = other(n.Name)
	}
	n.Kids = slices.Clone(n.Kids)
	for i, kid := range n.Kids {
		n.Kids[i] = withNames(kid, other)
	}
	return n
}

// apart asks for P8.2 with each declaration and each local named apart from all others, two locals of one name too. The names are written back by the numbers that Resolve told.
func apart(t *testing.T, n api.Node, p api.Program) {
	t.Helper()
	names, first, which := map[string]string{"main": "main"}, map[int]string{}, 0
	whole, want := n, p
	whole.Kids, want.Funcs = slices.Clone(n.Kids), slices.Clone(p.Funcs)
	for i, d := range n.Kids {
		if d.Name != "main" {
			names[d.Name] = fmt.Sprint("d", i)
		}
		whole.Kids[i].Name = names[d.Name]
		if d.Kind == api.KVar || d.Kind == api.KArray {
			first[which] = names[d.Name]
			which += max(1, d.N)
		}
	}
	which = 0
	for i, d := range n.Kids {
		if d.Kind != api.KFunc {
			continue
		}
		f := p.Funcs[which]
		kids := make([]api.Node, len(d.Kids))
		for k, param := range d.Kids[:d.N] {
			param.Name = fmt.Sprint("l", which, "_", k)
			kids[k] = param
		}
		kids[d.N] = written(f.Block, which, names, first)
		whole.Kids[i].Kids = kids
		want.Funcs[which].Name = names[f.Name]
		want.Funcs[which].Block = relet(f.Block, which, names)
		which++
	}
	got, bad := scope.Resolve(whole)
	if bad != (api.Bad{}) || !scope.Same(got, want) {
		t.Fatalf("%+v with names apart: %s, %v, want %s", n, tell(got), bad, tell(want))
	}
}

// written is a resolved tree as one with names again.
func written(n api.Node, which int, names map[string]string, first map[int]string) api.Node {
	kids := make([]api.Node, len(n.Kids))
	for i, kid := range n.Kids {
		kids[i] = written(kid, which, names, first)
	}
	n.Kids, n.Obj = kids, 0
	switch n.Kind {
	case api.KLocal:
		return name(fmt.Sprint("l", which, "_", n.N))
	case api.KPlace:
		return name(first[n.N])
	case api.KElem:
		return index(first[n.N], kids[0])
	case api.KLet:
		n.Name, n.N = fmt.Sprint("l", which, "_", n.N), 0
	case api.KUnary, api.KBinary:
	default:
		n.Name = names[n.Name]
	}
	return n
}

// relet is a resolved tree with the names that written gave its statements.
func relet(n api.Node, which int, names map[string]string) api.Node {
	n.Kids = slices.Clone(n.Kids)
	for i, kid := range n.Kids {
		n.Kids[i] = relet(kid, which, names)
	}
	if n.Kind == api.KLet {
		n.Name = fmt.Sprint("l", which, "_", n.N)
	} else if n.Kind != api.KUnary && n.Kind != api.KBinary {
		n.Name = names[n.Name]
	}
	return n
}

// TestManyLocals: functions of so many locals that some are too many, in blocks of all kinds.
func TestManyLocals(t *testing.T) {
	r := rand.New(rand.NewSource(12))
	errors := map[error]int{}
	for range 500 {
		f := api.Node{Kind: api.KFunc, Name: "main", Kids: []api.Node{letsOnly(r, 3, 1+r.Intn(10))}}
		n := api.Node{Kind: api.KProgram, Kids: []api.Node{f, {Kind: api.KMutex, Name: "l3"}}}
		at := 0
		scatter(&n, &at)
		for range 100 {
			_, bad := checked(t, n)
			errors[bad.Err]++
			if bad.Err != api.ErrName {
				break
			}
			n = relabeled(r, n, bad.At)
		}
	}
	if errors[nil] < 50 || errors[api.ErrLarge] < 50 || errors[api.ErrName] < 50 {
		t.Errorf("%v", errors)
	}
}

func letsOnly(r *rand.Rand, deep, most int) api.Node {
	b := block()
	for range r.Intn(most + 1) {
		if deep > 0 && r.Intn(3) == 0 {
			b.Kids = append(b.Kids, does0(api.KIf, truth(1), letsOnly(r, deep-1, most), letsOnly(r, deep-1, most)))
		} else {
			b.Kids = append(b.Kids, let(fmt.Sprint("l", r.Intn(40)), 0, number(1)))
		}
	}
	return b
}

func relabeled(r *rand.Rand, n api.Node, at int) api.Node {
	n.Kids = slices.Clone(n.Kids)
	if n.At == at {
		n.Name = fmt.Sprint("l", r.Intn(400))
	}
	for i, kid := range n.Kids {
		n.Kids[i] = relabeled(r, kid, at)
	}
	return n
}

// TestRandomDeclarations: many declarations of few names, so that each limit is come to.
func TestRandomDeclarations(t *testing.T) {
	t.Parallel()
	r := rand.New(rand.NewSource(13))
	errors := map[error]int{}
	for range 3000 {
		n := api.Node{Kind: api.KProgram}
		names, most := pick(r, 40, 400, 4000), pick(r, 4, 12, 65, 66)
		funcs := pick(r, 1, 3)
		for range r.Intn(50) {
			d := api.Node{Kind: pick(r, api.KVar, api.KArray, api.KMutex, api.KChan, api.KAtomic), Name: fmt.Sprint("n", r.Intn(names))}
			if d.Kind != api.KMutex && d.Kind != api.KAtomic {
				d.Type = 1 + r.Intn(3)
			}
			if d.Kind == api.KArray {
				d.N = min(1, r.Intn(80)) * r.Intn(most)
			}
			if d.Kind == api.KChan {
				d.N = r.Intn(pick(r, 9, 9, 9, 9, 9, 9, 9, 10))
			}
			if r.Intn(4) < funcs-1 {
				d = api.Node{Kind: api.KFunc, Name: d.Name, Kids: []api.Node{block()}}
			}
			n.Kids = append(n.Kids, d)
		}
		if r.Intn(10) > 0 {
			n.Kids = append(n.Kids, api.Node{Kind: api.KFunc, Name: "main", Kids: []api.Node{block()}})
		}
		at := 0
		scatter(&n, &at)
		_, bad := checked(t, n)
		errors[bad.Err]++
	}
	for _, err := range []error{nil, api.ErrName, api.ErrRange, api.ErrLarge, api.ErrNone} {
		if errors[err] < 50 {
			t.Errorf("%v: %d times, %v", err, errors[err], errors)
		}
	}
}
