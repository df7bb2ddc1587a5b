package vm_test

import (
	"math"
	"math/rand"
	"slices"
	"strings"
	"testing"

	"stockade/act"
	"stockade/api"
	"stockade/proofread"
	"stockade/value"
	"stockade/vm"
)

// The tests of P17.1 on wrong inputs, and on threads that are asked by hand.

// checkRefused asks for ErrCode of all calls, with nothing beside it.
func checkRefused(t *testing.T, c api.Code) {
	t.Helper()
	if run, err := vm.Start(c); run != nil || err != api.ErrCode {
		t.Errorf("%v: Start = %v, %v", c, run, err)
	}
	for _, fuel := range []int{-1, 0, 1, 100} {
		if events, end, err := vm.Play(c, []int{1}, fuel); len(events) > 0 || end != (api.End{}) || err != api.ErrCode {
			t.Errorf("%v: Play = %v, %v, %v", c, events, end, err)
		}
	}
	if begin, err := vm.Begin(c); begin != nil || err != api.ErrCode {
		t.Errorf("%v: Begin = %v, %v", c, begin != nil, err)
	}
}

// rich has an instruction of each Op.
const rich = "f ib+f: Local 1, JumpIf $x 0, Local 0, $w Write 0, Return, $x Turn, Local 2, Unary int, Int 0, Binary +, Fail; " +
	"main +b: Turn, Read 8, Short $y 1, Bool 1, $y SetLocal 0, Int 1, ReadElem 1 3, Int 2, Float 7, WriteElem 5 3, Local 0, Call f, Int 3, Bool 1, Go f, Lock 0, Unlock 0, Int 5, Send 3, Recv 3, Put 1, Get 1, Add 0, Jump $z, $z Int 4, Fail"

// apart is a copy of a code that shares nothing with it.
func apart(c api.Code) api.Code {
	c.Places, c.Chans, c.Funcs, c.Body = slices.Clone(c.Places), slices.Clone(c.Chans), slices.Clone(c.Funcs), slices.Clone(c.Body)
	for i := range c.Funcs {
		c.Funcs[i].Locals = slices.Clone(c.Funcs[i].Locals)
	}
	return c
}

// TestNotInForm: codes of which one thing was changed so that they aren't in form.
func TestNotInForm(t *testing.T) {
	l := right(t, rich)
	for i, name := range opNames {
		if !slices.ContainsFunc(l.Body, func(in api.Instr) bool { return in.Op == i+1 }) {
			t.Errorf("there is no %s", name)
		}
	}
	if _, end, err := vm.Play(l.Code, nil, 100); end.Outcome == api.Running || err != nil {
		t.Fatal(end, err)
	}
	checkRefused(t, api.Code{})
	checkRefused(t, api.Code{Funcs: []api.Entry{{}}})
	checkRefused(t, api.Code{Body: []api.Instr{{Op: 25}}})
	for _, change := range []func(c *api.Code){
		func(c *api.Code) { c.Main = 0 },
		func(c *api.Code) { c.Main = -1 },
		func(c *api.Code) { c.Main = 2 },
		func(c *api.Code) { c.Main = math.MinInt },
		func(c *api.Code) { c.Funcs = nil },
		func(c *api.Code) { c.Funcs = c.Funcs[:1] },
		func(c *api.Code) { c.Places = c.Places[:5] },
		func(c *api.Code) { c.Places[0] = 0 },
		func(c *api.Code) { c.Places[9] = 4 },
		func(c *api.Code) { c.Places = slices.Repeat(types("i"), api.MaxPlaces+1) },
		func(c *api.Code) { c.Mutexes = 0 },
		func(c *api.Code) { c.Mutexes = -1 },
		func(c *api.Code) { c.Mutexes = math.MaxInt },
		func(c *api.Code) { c.Mutexes = api.MaxObjects },
		func(c *api.Code) { c.Atomics = 1 },
		func(c *api.Code) { c.Chans = nil },
		func(c *api.Code) { c.Chans[0].Room = api.MaxRoom + 1 },
		func(c *api.Code) { c.Chans[0].Type = 0 },
		func(c *api.Code) { c.Funcs[0].Start = 1 },
		func(c *api.Code) { c.Funcs[1].Start = len(c.Body) },
		func(c *api.Code) { c.Funcs[0].Params = 5 },
		func(c *api.Code) { c.Funcs[0].Locals = types("i") },
		func(c *api.Code) { c.Funcs[1].Locals[0] = 7 },
		func(c *api.Code) { c.Body = nil },
		func(c *api.Code) { c.Body = append(c.Body, slices.Repeat([]api.Instr{{Op: 25}}, api.MaxCode)...) },
	} {
		c := apart(l.Code)
		change(&c)
		checkRefused(t, c)
	}
	for i := range l.Body {
		for _, in := range []api.Instr{{}, {Op: 27}, {Op: -1}, {Op: 25, A: 1}, {Op: 24, B: 1}, {Op: 24, Bits: 1}, {Op: 24, At: -1}, {Op: 24, At: api.MaxText + 1}, {Op: 6, A: 11}, {Op: 6, A: -1}, {Op: 8, A: 3, B: 3}, {Op: 12, A: len(l.Body)}} {
			c := apart(l.Code)
			c.Body[i] = in
			checkRefused(t, c)
		}
	}
}

// TestNotRight: codes in form that aren't right, be what is wrong in the function that begins or in one that nobody calls.
func TestNotRight(t *testing.T) {
	wrong := []string{
		"Int 1, Return", "Turn", "Int 1", "Fail", "Bool 1, Fail", "Write 0, Return", "Int 1, Write 5, Return", "Local 0, Fail", "Int 1, SetLocal 0, Return",
		"Jump $x, $x Jump $x", "$x Int 1, Jump $x", "$x Lock 0, Jump $x", "$x Bool 1, JumpIf $x 1, Return", "Int 1, JumpIf $x 1, $x Return", "Bool 1, Short $x 1, $x Return",
		"Bool 1, JumpIf $x 1, Int 1, $x Return", "Int 1, Float 1, Binary +, Fail", "Bool 1, Bool 1, Binary <, JumpIf $x 1, $x Return", "Float 1, Float 1, Binary %, Write 5, Return",
		"Int 1, Unary !, Return", "Bool 1, Unary -, Write 8, Return", "Float 1, ReadElem 1 3, Fail", "Int 1, WriteElem 1 3, Return", "Int 1, Float 1, WriteElem 1 3, Return",
		"Int 1, Send 1, Return", "Recv 0, Return", "Get 0, Return", "Put 0, Return", "Float 1, Add 0, Return", "Call g, Return", "Go g, Return", "Int 1, Int 1, Call g, Return", "Int 1, Go g, Return",
		strings.Repeat("Int 1, ", api.MaxStack+1) + "Fail",
	}
	for _, text := range wrong {
		for _, whole := range []string{"main: " + text + "; g ib: Return", "g ib: Return; main: " + text, "main: Return; f: " + text + "; g ib: Return"} {
			l := listed(whole)
			if proofread.Check(l.Code) != api.ErrCode {
				t.Errorf("%s is right", whole)
			}
			checkRefused(t, l.Code)
		}
	}
}

// TestChangedCodes: what isn't right by layer 16 is refused, and nothing else is, whatever it is.
func TestChangedCodes(t *testing.T) {
	r := rand.New(rand.NewSource(171))
	took, refused := 0, 0
	for range many(10000) {
		c := changed(r, randomCode(r))
		if proofread.Check(c) != nil {
			refused++
			checkRefused(t, c)
			continue
		}
		took++
		checkPlay(t, c, randomPicks(r), 100)
	}
	if took < many(2000) || refused < many(4000) {
		t.Error(took, refused)
	}
}

// TestBeginOfNone: no thread of a number of none, of another number of arguments, of arguments not in form or of other types.
func TestBeginOfNone(t *testing.T) {
	l := right(t, "f ifbi+ifb: Return; main +i: Return; g b: Return; h +ifbi: Return")
	begin, err := vm.Begin(l.Code)
	if begin == nil || err != nil {
		t.Fatal(begin != nil, err)
	}
	i, f, b := value.Int(-3), value.Float(math.NaN()), value.Bool(true)
	for fn, args := range [][]api.Value{{i, f, b, i}, {}, {b}, nil} {
		if begin(fn, args) == nil {
			t.Errorf("no thread of function %d with %v", fn, args)
		}
		for _, other := range []int{-1, 4, 5, 16, math.MinInt, math.MaxInt} {
			if begin(other, args) != nil {
				t.Errorf("a thread of function %d", other)
			}
		}
		for n := range 8 {
			some := append(slices.Clone(args), i, f, b, i, f, b, i, f)[:n]
			if n != len(args) && begin(fn, some) != nil {
				t.Errorf("a thread of function %d with %v", fn, some)
			}
		}
		for at, arg := range args {
			wrong := []api.Value{{}, {Type: 4}, {Type: -1}, {Type: arg.Type + 3, N: arg.N}, {Type: arg.Type, N: 2, Bits: 1}, {Type: arg.Type, N: -1, Bits: 1 << 63}}
			for _, v := range []api.Value{i, f, b, {Type: api.TBool, N: 2}, {Type: api.TBool, N: -1}} {
				if v.Type != arg.Type || !value.Good(v) {
					wrong = append(wrong, v)
				}
			}
			for _, v := range wrong {
				some := slices.Clone(args)
				some[at] = v
				if begin(fn, some) != nil {
					t.Errorf("a thread of function %d with %v", fn, some)
				}
			}
		}
	}
	if begin(1, []api.Value{}) == nil {
		t.Error("no thread of a function without parameters")
	}
}

// TestThreads: by what it is given a thread goes on; others of its function have nothing to do with that.
func TestThreads(t *testing.T) {
	l := right(t, "g: $g Return; f ib: Local 0, $a Read 0, Binary +, $b Recv 2, JumpIf $x 1, Local 1, $c Send 2, $d Fail, $x Int 7, $h WriteElem 1 3, $i Turn, $e Return; main: $m Return")
	begin, err := vm.Begin(l.Code)
	if err != nil {
		t.Fatal(err)
	}
	args := values("i5 b1")
	first, second := begin(1, args), begin(1, values("i3 b0"))
	args[0], args[1] = value.Int(99), value.Bool(false)
	check := func(thread act.Thread, given, want string) {
		t.Helper()
		if got := l.answer(thread.Next(untold(given))); got != want {
			t.Errorf("%s, want %s", got, want)
		}
	}
	check(first, "", "read 0 a")
	check(second, "b1", "read 0 a") // what the first one is given doesn't matter
	check(first, "i-4", "recv 2 b")
	check(second, "i-4", "recv 2 b")
	check(second, "b1", "FaultIndex h")
	check(first, "b0", "send 2 c b1")
	check(first, "", "FaultFail 1 d")
	third := begin(1, values("i1 b0"))
	check(third, "", "read 0 a")
	check(third, "i1", "recv 2 b")
	check(third, "b1", "write 3 h i7")
	check(third, "", "turn i")
	for range 3 { // behind their ends they tell these again
		check(first, "", "FaultFail 1 d")
		check(second, "i1", "FaultIndex h")
		check(third, "b1", "end e")
		check(begin(0, nil), "", "end g")
		check(begin(2, nil), "", "end m")
	}
}

// TestGivenAnything: a thread that is given what no event gives tells a wait or a halt still.
func TestGivenAnything(t *testing.T) {
	r := rand.New(rand.NewSource(172))
	any := func() api.Value {
		return api.Value{Type: r.Intn(6) - 1, N: []int{0, 1, 2, -1, math.MaxInt, math.MinInt}[r.Intn(6)], Bits: []uint64{0, 1, 1 << 63, 0x7ff8000000000000}[r.Intn(4)]}
	}
	for range many(4000) {
		c := randomCode(r)
		begin, err := vm.Begin(c)
		if err != nil {
			t.Fatal(err)
		}
		for fn, f := range c.Funcs {
			thread := begin(fn, zeros(f))
			for range 60 {
				w, h := thread.Next(any())
				if (w.Kind < api.EvRead || w.Kind > api.EvEnd) == (h.Fault == 0) {
					t.Fatalf("%v: %v %v", c, w, h)
				}
			}
		}
	}
}

// zeros is arguments that a function takes.
func zeros(f api.Entry) []api.Value {
	var list []api.Value
	for _, typ := range f.Locals[:f.Params] {
		list = append(list, value.Zero(typ))
	}
	return list
}
