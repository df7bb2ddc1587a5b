package scope_test

import (
	"math"
	"regexp"
	"slices"
	"strings"
	"testing"

	"stockade/api"
	"stockade/scope"
)

// What the chapter says of Good as a table: which fields a kind of node has, and a pattern of its kids' letters. The tests hold it against Good on programs of which one thing was changed.

type shape struct {
	letter string // b a block, s a statement, t what can be set, e another expression
	fields string // of Obj: f a function, m a mutex, c a channel, k an atomic; of N: n from 0 on, v 0 or 1, l a local, q one that is no parameter, p a place, r a row's first one; w Bits
	kids   string
}

var shapes = map[int]shape{
	api.KBlock:  {"b", "", "s*"},
	api.KSet:    {"s", "", "t[te]"},
	api.KLet:    {"s", "q", "[te]"},
	api.KGo:     {"s", "f", "[te]*"},
	api.KCall:   {"s", "f", "[te]*"},
	api.KLock:   {"s", "m", ""},
	api.KUnlock: {"s", "m", ""},
	api.KSend:   {"s", "c", "[te]"},
	api.KRecv:   {"s", "c", "t"},
	api.KAdd:    {"s", "k", "[te]"},
	api.KPut:    {"s", "k", "[te]"},
	api.KGet:    {"s", "k", "t"},
	api.KIf:     {"s", "", "[te]bb?"},
	api.KWhile:  {"s", "", "[te]b"},
	api.KReturn: {"s", "", ""},
	api.KFail:   {"s", "", "[te]"},
	api.KInt:    {"e", "n", ""},
	api.KFloat:  {"e", "w", ""},
	api.KBool:   {"e", "v", ""},
	api.KUnary:  {"e", "", "[te]"},
	api.KBinary: {"e", "", "[te][te]"},
	api.KLocal:  {"t", "l", ""},
	api.KPlace:  {"t", "p", ""},
	api.KElem:   {"t", "r", "[te]"},
}

var kidForms = func() map[int]*regexp.Regexp {
	forms := map[int]*regexp.Regexp{}
	for kind, s := range shapes {
		forms[kind] = regexp.MustCompile("^(?:" + s.kids + ")$")
	}
	return forms
}()

// from tells whether a number is one of the numbers from a first to a last.
func from(n, first, last int) bool {
	return first <= n && n <= last
}

// fits is whether a tree could stand in a function, by the table.
func fits(p api.Program, f api.Func, n api.Node) bool {
	s, known := shapes[n.Kind]
	if !known {
		return false
	}
	letters := ""
	for _, kid := range n.Kids {
		letters += (shapes[kid.Kind].letter + "?")[:1]
	}
	if !kidForms[n.Kind].MatchString(letters) {
		return false
	}
	objects := map[string]int{"f": len(p.Funcs), "m": p.Mutexes, "c": len(p.Chans), "k": p.Atomics, "": 1}
	if many, named := objects[s.fields]; named && !from(n.Obj, 0, many-1) || !named && n.Obj != 0 {
		return false
	}
	firsts := map[string]int{"q": f.Params}
	lasts := map[string]int{"n": math.MaxInt, "v": 1, "l": len(f.Locals) - 1, "q": len(f.Locals) - 1, "p": len(p.Places) - 1, "r": len(p.Places) - 1}
	if !from(n.N, firsts[s.fields], lasts[s.fields]) {
		return false
	}
	if s.fields == "r" {
		if !from(n.Size, 1, api.MaxElems) || n.N+n.Size > len(p.Places) || len(slices.Compact(slices.Clone(p.Places[n.N:n.N+n.Size]))) != 1 {
			return false
		}
	} else if n.Size != 0 {
		return false
	}
	if s.fields != "w" && n.Bits != 0 {
		return false
	}
	return !slices.ContainsFunc(n.Kids, func(kid api.Node) bool { return !fits(p, f, kid) })
}

// fitting is a program whose function 1 has a tree as its block; it has 6 places, 2 mutexes, 3 atomics, 4 channels, 3 functions, and there 2 parameters and 5 locals.
func fitting(b api.Node) api.Program {
	return api.Program{
		Places: []int{1, 1, 1, 3, 3, 2}, Mutexes: 2, Atomics: 3,
		Chans: []api.Chan{{Type: 1, Room: 0}, {Type: 2, Room: 8}, {Type: 3, Room: 1}, {Type: 1, Room: 2}},
		Funcs: []api.Func{{Name: "f", Params: 1, Locals: []int{1}, Block: block()}, {Name: "g", Params: 2, Locals: []int{2, 3, 0, 0, 0}, Block: b}, {Name: "main", Block: block()}},
		Main:  2,
	}
}

func does0(kind int, kids ...api.Node) api.Node {
	return api.Node{Kind: kind, Kids: kids}
}

// wholes is a tree as a function's block, and as each part of one.
func wholes(n api.Node) []api.Node {
	x, one, no := local(0), number(1), block()
	in := func(kind int, kids ...api.Node) api.Node { return block(does0(kind, kids...)) }
	fail := func(kind int, kids ...api.Node) api.Node { return block(does0(api.KFail, does0(kind, kids...))) }
	return []api.Node{
		n, block(n), block(n, does0(api.KReturn)), block(does0(api.KReturn), n), block(block(n)),
		in(api.KSet, n, one), in(api.KSet, x, n), in(api.KSet, x, one, n), block(let("y", 4, n)),
		in(api.KGo, n), in(api.KGo, one, n), in(api.KCall, n), in(api.KCall, n, one), in(api.KLock, n), in(api.KUnlock, n),
		in(api.KSend, n), in(api.KRecv, n), in(api.KAdd, n), in(api.KPut, n), in(api.KGet, n),
		in(api.KIf, n), in(api.KIf, n, no), in(api.KIf, x, n), in(api.KIf, x, no, n), in(api.KIf, x, no, no, n), in(api.KIf, x, block(n)), in(api.KIf, x, no, block(n)),
		in(api.KWhile, n), in(api.KWhile, n, no), in(api.KWhile, x, n), in(api.KWhile, x, no, n), in(api.KWhile, x, block(n)),
		in(api.KReturn, n), in(api.KFail, n), in(api.KFail, one, n),
		fail(api.KUnary, n), fail(api.KUnary, one, n), fail(api.KBinary, n), fail(api.KBinary, n, one), fail(api.KBinary, one, n), fail(api.KBinary, one, one, n),
		fail(api.KInt, n), fail(api.KFloat, n), fail(api.KBool, n), fail(api.KLocal, n), fail(api.KPlace, n), block(does0(api.KFail, elem(0, 3, n))),
	}
}

// samples is a node of each kind that could stand in the function, of some several.
func samples() []api.Node {
	x, one, no := local(1), number(1), block()
	return []api.Node{
		no, block(does0(api.KReturn)), set(x, one), set(elem(3, 2, one), x), set(place(5), x), let("x", 2, one), let("x", 4, place(0)),
		does(api.KGo, "f", 0), does(api.KGo, "f", 2, one, x), does(api.KCall, "f", 1), does(api.KCall, "f", 2, x, one, one),
		does(api.KLock, "m", 1), does(api.KUnlock, "m", 0), does(api.KSend, "c", 3, one), does(api.KRecv, "c", 0, x), does(api.KAdd, "k", 2, one),
		does(api.KPut, "k", 0, one), does(api.KGet, "k", 1, elem(0, 3, x)),
		does0(api.KIf, x, no), does0(api.KIf, x, no, block(does0(api.KReturn))), does0(api.KWhile, x, no), does0(api.KReturn), does0(api.KFail, one),
		one, {Kind: api.KFloat, Bits: 1}, truth(1), x, local(4), place(0), place(5), elem(0, 3, one), elem(5, 1, one), elem(1, 2, x),
		{Kind: api.KUnary, Name: "-", Kids: []api.Node{one}}, {Kind: api.KBinary, Name: "<=", Kids: []api.Node{one, x}},
	}
}

// wantFit holds Good against the table, on a tree in each part of a function.
func wantFit(t *testing.T, n api.Node) {
	t.Helper()
	for i, whole := range wholes(n) {
		p := fitting(whole)
		right := fits(p, p.Funcs[1], whole) && whole.Kind == api.KBlock
		if err := scope.Good(p); !t.Failed() && (right && err != nil || !right && err != api.ErrCode) {
			t.Errorf("part %d: Good(%s): %v, want good: %v", i, tell(whole), err, right)
		}
	}
}

func TestGoodSamples(t *testing.T) {
	seen := map[int]bool{}
	for _, n := range samples() {
		seen[n.Kind] = true
		if p := fitting(block()); !fits(p, p.Funcs[1], n) {
			t.Errorf("%s doesn't fit", tell(n))
		}
		wantFit(t, n)
	}
	if len(seen) != len(shapes) {
		t.Errorf("%d kinds, want %d", len(seen), len(shapes))
	}
}

// TestGoodKinds: a node of each kind stands in each part of a function; a kind of layer 6 that layer 8 changes, or none at all, never does.
func TestGoodKinds(t *testing.T) {
	t.Parallel()
	for _, n := range samples() {
		for kind := -1; kind <= api.KElem+2; kind++ {
			other := n
			other.Kind = kind
			wantFit(t, other)
		}
	}
	for _, kind := range []int{0, -1, math.MinInt, math.MaxInt, api.KName, api.KIndex, api.KParam, api.KFunc} {
		wantFit(t, api.Node{Kind: kind})
		wantFit(t, api.Node{Kind: kind, Name: "x"})
		wantFit(t, api.Node{Kind: kind, Name: "x", Kids: []api.Node{number(1)}})
	}
}

// TestGoodFields: each field of each kind with values at and past its range's ends, and where it has to be zero; names, types and places may be any.
func TestGoodFields(t *testing.T) {
	t.Parallel()
	for _, n := range samples() {
		for _, v := range []int{math.MinInt, -2, -1, 0, 1, 2, 3, 4, 5, 6, 64, 65, math.MaxInt - 63, math.MaxInt} {
			for field := range 5 {
				other := n
				*[]*int{&other.At, &other.Type, &other.N, &other.Size, &other.Obj}[field] = v
				wantFit(t, other)
			}
		}
		for _, bits := range []uint64{0, 1, 1 << 63, math.MaxUint64} {
			other := n
			other.Bits = bits
			wantFit(t, other)
		}
		for _, text := range []string{"", "x", "main", "if", "-", "+", "int", "1 2", "\x00", strings.Repeat("x", 9000)} {
			other := n
			other.Name = text
			wantFit(t, other)
		}
	}
}

// TestGoodRows: all rows of places, of a program with some of each type.
func TestGoodRows(t *testing.T) {
	for first := -2; first <= 8; first++ {
		for size := -2; size <= 8; size++ {
			wantFit(t, elem(first, size, number(0)))
		}
	}
	for _, v := range []int{math.MaxInt, math.MaxInt - 1, math.MinInt, math.MinInt + 1} {
		wantFit(t, elem(v, v, number(0)))
		wantFit(t, elem(v, 1, number(0)))
		wantFit(t, elem(2, v, number(0)))
		wantFit(t, elem(v, 2-v, number(0)))
	}
	for size, want := range map[int]error{1: nil, 63: nil, 64: nil, 65: api.ErrCode, 128: api.ErrCode} {
		for _, first := range []int{0, 128 - size} {
			p := fitting(block(does0(api.KFail, elem(first, size, number(0)))))
			p.Places = slices.Repeat([]int{2}, api.MaxPlaces)
			if err := scope.Good(p); err != want {
				t.Errorf("%d from %d on: %v, want %v", size, first, err, want)
			}
		}
	}
}

// TestGoodKids: each kind with a kid left out, twice there, put in, changed for another, or with two kids in the other order.
func TestGoodKids(t *testing.T) {
	t.Parallel()
	for _, n := range samples() {
		other := n
		for i := range n.Kids {
			other.Kids = slices.Delete(slices.Clone(n.Kids), i, i+1)
			wantFit(t, other)
			other.Kids = slices.Insert(slices.Clone(n.Kids), i, n.Kids[i])
			wantFit(t, other)
			if i > 0 {
				other.Kids = slices.Clone(n.Kids)
				other.Kids[i-1], other.Kids[i] = other.Kids[i], other.Kids[i-1]
				wantFit(t, other)
			}
		}
		for _, kid := range append(samples(), api.Node{}, api.Node{Kind: api.KName, Name: "x"}, local(5), local(-1), place(6)) {
			for i := range len(n.Kids) + 1 {
				other.Kids = slices.Insert(slices.Clone(n.Kids), i, kid)
				wantFit(t, other)
				if i < len(n.Kids) {
					other.Kids = slices.Clone(n.Kids)
					other.Kids[i] = kid
					wantFit(t, other)
				}
			}
		}
		other.Kids = []api.Node{}
		wantFit(t, other)
	}
}

// TestGoodNumbersOfOthers: what is there is asked of the program and the function itself.
func TestGoodNumbersOfOthers(t *testing.T) {
	for what, stmt := range map[string]api.Node{
		"place": set(place(0), number(1)), "row": set(elem(0, 1, number(1)), number(1)), "local": set(local(0), number(1)), "let": let("x", 0, number(1)),
		"lock": does(api.KLock, "m", 0), "unlock": does(api.KUnlock, "m", 0), "send": does(api.KSend, "c", 0, number(1)), "add": does(api.KAdd, "k", 0, number(1)), "put": does(api.KPut, "k", 0, number(1)),
	} {
		p := api.Program{Funcs: []api.Func{{Block: block(stmt)}}}
		if err := scope.Good(p); err != api.ErrCode {
			t.Errorf("%s of none: %v", what, err)
		}
		p = api.Program{Places: []int{1}, Mutexes: 1, Atomics: 1, Chans: []api.Chan{{Type: 1}}, Funcs: []api.Func{{Locals: []int{0}, Block: block(stmt)}}}
		if err := scope.Good(p); err != nil {
			t.Errorf("%s of one: %v", what, err)
		}
	}
	for i := range 3 { // each function's block is asked, with its own locals
		p := fitting(block())
		p.Funcs[i].Block = block(set(local(0), number(1)), set(local(1), number(1)))
		if err := scope.Good(p); (err == nil) != (i == 1) {
			t.Errorf("function %d: %v", i, err)
		}
		p.Funcs[i].Block = block(does0(api.KSet))
		if err := scope.Good(p); err != api.ErrCode {
			t.Errorf("function %d: %v", i, err)
		}
	}
}

// TestGoodPrograms: what a program has beside its blocks, at each limit and one past it.
func TestGoodPrograms(t *testing.T) {
	chans := func(many int) []api.Chan { return slices.Repeat([]api.Chan{{Type: 1, Room: 1}}, many) }
	funcs := func(many int) []api.Func { return slices.Repeat([]api.Func{{Block: block()}}, many) }
	types := func(many int, t ...int) []int { return append(slices.Repeat([]int{1}, many), t...) }
	one := func(f api.Func) func(p *api.Program) {
		f.Block = block()
		return func(p *api.Program) { p.Funcs = append(p.Funcs, f) }
	}
	for what, c := range map[string]struct {
		change func(p *api.Program)
		good   bool
	}{
		"nothing":                 {func(p *api.Program) {}, true},
		"no lists":                {func(p *api.Program) { p.Places, p.Chans, p.Funcs[0].Locals = nil, nil, nil }, true},
		"empty lists":             {func(p *api.Program) { p.Places, p.Chans, p.Funcs[0].Locals = []int{}, []api.Chan{}, []int{} }, true},
		"no functions":            {func(p *api.Program) { p.Funcs = nil }, false},
		"Main -1":                 {func(p *api.Program) { p.Main = -1 }, false},
		"Main 1":                  {func(p *api.Program) { p.Main = 1 }, false},
		"Main 1 of 2":             {func(p *api.Program) { p.Main, p.Funcs = 1, funcs(2) }, true},
		"Main least":              {func(p *api.Program) { p.Main = math.MinInt }, false},
		"Main most":               {func(p *api.Program) { p.Main = math.MaxInt }, false},
		"Main with a parameter":   {func(p *api.Program) { p.Funcs[0].Params, p.Funcs[0].Locals = 1, []int{1} }, false},
		"name":                    {func(p *api.Program) { p.Funcs[0].Name = "if" }, true},
		"two of one name":         {func(p *api.Program) { p.Funcs = funcs(2) }, true},
		"128 places":              {func(p *api.Program) { p.Places = types(128) }, true},
		"129 places":              {func(p *api.Program) { p.Places = types(129) }, false},
		"a place of type 0":       {func(p *api.Program) { p.Places = types(1, 0) }, false},
		"a place of type 2":       {func(p *api.Program) { p.Places = types(1, 2) }, true},
		"a place of type 3":       {func(p *api.Program) { p.Places = types(1, 3) }, true},
		"a place of type 4":       {func(p *api.Program) { p.Places = types(1, 4, 1) }, false},
		"a place of type -1":      {func(p *api.Program) { p.Places = types(0, -1, 1) }, false},
		"32 mutexes":              {func(p *api.Program) { p.Mutexes = 32 }, true},
		"33 mutexes":              {func(p *api.Program) { p.Mutexes = 33 }, false},
		"-1 mutexes":              {func(p *api.Program) { p.Mutexes = -1 }, false},
		"32 atomics":              {func(p *api.Program) { p.Atomics = 32 }, true},
		"33 atomics":              {func(p *api.Program) { p.Atomics = 33 }, false},
		"-1 atomics":              {func(p *api.Program) { p.Atomics = -1 }, false},
		"-1 atomics, 5 mutexes":   {func(p *api.Program) { p.Atomics, p.Mutexes = -1, 5 }, false},
		"33 mutexes, -1 atomics":  {func(p *api.Program) { p.Atomics, p.Mutexes = -1, 33 }, false},
		"-1 mutexes, 33 atomics":  {func(p *api.Program) { p.Atomics, p.Mutexes = 33, -1 }, false},
		"most mutexes":            {func(p *api.Program) { p.Mutexes = math.MaxInt }, false},
		"most mutexes, atomics":   {func(p *api.Program) { p.Mutexes, p.Atomics = math.MaxInt, math.MaxInt }, false},
		"most and one":            {func(p *api.Program) { p.Mutexes, p.Atomics = math.MaxInt, 1 }, false},
		"one and most":            {func(p *api.Program) { p.Mutexes, p.Atomics = 1, math.MaxInt }, false},
		"least mutexes":           {func(p *api.Program) { p.Mutexes, p.Atomics = math.MinInt, math.MinInt }, false},
		"32 channels":             {func(p *api.Program) { p.Chans = chans(32) }, true},
		"33 channels":             {func(p *api.Program) { p.Chans = chans(33) }, false},
		"32 objects":              {func(p *api.Program) { p.Mutexes, p.Atomics, p.Chans = 10, 11, chans(11) }, true},
		"33 objects":              {func(p *api.Program) { p.Mutexes, p.Atomics, p.Chans = 11, 11, chans(11) }, false},
		"16 and 17":               {func(p *api.Program) { p.Mutexes, p.Chans = 16, chans(17) }, false},
		"32 objects, 128 places":  {func(p *api.Program) { p.Mutexes, p.Atomics, p.Chans, p.Places = 10, 11, chans(11), types(128) }, true},
		"a channel of type 0":     {func(p *api.Program) { p.Chans = append(chans(1), api.Chan{}) }, false},
		"a channel of type 4":     {func(p *api.Program) { p.Chans = append(chans(1), api.Chan{Type: 4}) }, false},
		"a channel of type 3":     {func(p *api.Program) { p.Chans = append(chans(1), api.Chan{Type: 3}) }, true},
		"room 8":                  {func(p *api.Program) { p.Chans = append(chans(1), api.Chan{Type: 2, Room: 8}) }, true},
		"room 9":                  {func(p *api.Program) { p.Chans = append(chans(1), api.Chan{Type: 2, Room: 9}) }, false},
		"room -1":                 {func(p *api.Program) { p.Chans = append(chans(1), api.Chan{Type: 2, Room: -1}) }, false},
		"16 functions":            {func(p *api.Program) { p.Funcs = funcs(16) }, true},
		"17 functions":            {func(p *api.Program) { p.Funcs = funcs(17) }, false},
		"4 parameters":            {one(api.Func{Params: 4, Locals: types(4)}), true},
		"5 parameters":            {one(api.Func{Params: 5, Locals: types(5)}), false},
		"-1 parameters":           {one(api.Func{Params: -1, Locals: types(4)}), false},
		"parameters, no locals":   {one(api.Func{Params: 2, Locals: types(1)}), false},
		"most parameters":         {one(api.Func{Params: math.MaxInt, Locals: types(4)}), false},
		"least parameters":        {one(api.Func{Params: math.MinInt, Locals: types(4)}), false},
		"32 locals":               {one(api.Func{Params: 1, Locals: types(32)}), true},
		"33 locals":               {one(api.Func{Params: 1, Locals: types(33)}), false},
		"33 locals, no parameter": {one(api.Func{Locals: types(33)}), false},
		"a parameter of type 0":   {one(api.Func{Params: 2, Locals: types(1, 0)}), false},
		"a parameter of type 4":   {one(api.Func{Params: 2, Locals: types(1, 4, 1)}), false},
		"a parameter of type 3":   {one(api.Func{Params: 2, Locals: types(1, 3)}), true},
		"a local of any type":     {one(api.Func{Params: 1, Locals: types(1, 0, -7, 99, math.MaxInt)}), true},
		"no block":                {func(p *api.Program) { p.Funcs[0].Block = api.Node{} }, false},
		"a second without block":  {func(p *api.Program) { p.Funcs = append(p.Funcs, api.Func{}) }, false},
	} {
		p := api.Program{Funcs: funcs(1)}
		c.change(&p)
		if err := scope.Good(p); c.good && err != nil || !c.good && err != api.ErrCode {
			t.Errorf("%s: %v", what, err)
		}
	}
	if err := scope.Good(api.Program{}); err != api.ErrCode {
		t.Error(err)
	}
}

// TestGoodOrder: locals need not be declared where they are used, nor once, nor arrays apart: what Good asks is what the chapter lists.
func TestGoodOrder(t *testing.T) {
	for _, b := range []api.Node{
		block(set(local(4), number(1)), let("x", 4, number(1))),
		block(let("x", 4, number(1)), let("x", 4, number(1)), let("y", 2, number(2))),
		block(set(elem(0, 2, number(0)), elem(1, 2, number(0)))),
		block(does(api.KCall, "", 1, number(1), number(1), number(1), number(1), number(1))),
		block(),
	} {
		if err := scope.Good(fitting(b)); err != nil {
			t.Errorf("%s: %v", tell(b), err)
		}
	}
}

// TestSame: each field of a program, and of a node but its place, makes another program.
func TestSame(t *testing.T) {
	whole := func() api.Program {
		e := api.Node{Kind: api.KUnary, At: 5, Name: "-", Type: 1, N: 2, Size: 3, Obj: 4, Bits: 6, Kids: []api.Node{number(1)}}
		return fitting(block(set(local(0), e), let("x", 4, number(1))))
	}
	at := func(p *api.Program) *api.Node { return &p.Funcs[1].Block.Kids[0].Kids[1] }
	for what, c := range map[string]struct {
		change func(p *api.Program)
		same   bool
	}{
		"nothing":        {func(p *api.Program) {}, true},
		"a place's type": {func(p *api.Program) { p.Places[5] = 1 }, false},
		"a place more":   {func(p *api.Program) { p.Places = append(p.Places, 0) }, false},
		"no places":      {func(p *api.Program) { p.Places = nil }, false},
		"mutexes":        {func(p *api.Program) { p.Mutexes++ }, false},
		"atomics":        {func(p *api.Program) { p.Atomics++ }, false},
		"both":           {func(p *api.Program) { p.Mutexes, p.Atomics = p.Atomics, p.Mutexes }, false},
		"channel's type": {func(p *api.Program) { p.Chans[3].Type = 2 }, false},
		"channel's room": {func(p *api.Program) { p.Chans[0].Room = 1 }, false},
		"channels":       {func(p *api.Program) { p.Chans = p.Chans[:3] }, false},
		"functions":      {func(p *api.Program) { p.Funcs = p.Funcs[:2] }, false},
		"Main":           {func(p *api.Program) { p.Main = 0 }, false},
		"name":           {func(p *api.Program) { p.Funcs[2].Name = "" }, false},
		"parameters":     {func(p *api.Program) { p.Funcs[0].Params = 0 }, false},
		"local's type":   {func(p *api.Program) { p.Funcs[1].Locals[4] = 1 }, false},
		"locals":         {func(p *api.Program) { p.Funcs[1].Locals = p.Funcs[1].Locals[:4] }, false},
		"block's place":  {func(p *api.Program) { p.Funcs[1].Block.At = -9 }, true},
		"block's kind":   {func(p *api.Program) { p.Funcs[1].Block.Kind = 0 }, false},
		"statements":     {func(p *api.Program) { p.Funcs[1].Block.Kids = p.Funcs[1].Block.Kids[:1] }, false},
		"node's kind":    {func(p *api.Program) { at(p).Kind++ }, false},
		"node's place":   {func(p *api.Program) { at(p).At++ }, true},
		"node's name":    {func(p *api.Program) { at(p).Name = "!" }, false},
		"node's type":    {func(p *api.Program) { at(p).Type++ }, false},
		"node's N":       {func(p *api.Program) { at(p).N++ }, false},
		"node's size":    {func(p *api.Program) { at(p).Size++ }, false},
		"node's object":  {func(p *api.Program) { at(p).Obj++ }, false},
		"node's bits":    {func(p *api.Program) { at(p).Bits++ }, false},
		"node's kids":    {func(p *api.Program) { at(p).Kids = nil }, false},
		"empty lists":    {func(p *api.Program) { p.Funcs[2].Locals, p.Funcs[2].Block.Kids = []int{}, []api.Node{} }, true},
	} {
		p, q := whole(), whole()
		c.change(&q)
		if scope.Same(p, q) != c.same || scope.Same(q, p) != c.same || !scope.Same(q, q) {
			t.Errorf("%s: %v, %v, want %v", what, scope.Same(p, q), scope.Same(q, p), c.same)
		}
	}
	if !scope.Same(api.Program{}, api.Program{Places: []int{}, Chans: []api.Chan{}, Funcs: []api.Func{}}) || !scope.Same(api.Program{}, api.Program{}) || scope.Same(api.Program{}, whole()) {
		t.Error("empty programs")
	}
}
