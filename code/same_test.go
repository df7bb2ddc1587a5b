package code_test

import (
	"fmt"
	"math"
	"testing"

	"stockade/api"
	"stockade/code"
)

// The tests of P14.1 on Same, and on operators and their numbers.

// changes is changes of rich's parts, each in one field alone, or of a list's length.
func changes() []func(c *api.Code) {
	list := []func(c *api.Code){
		func(c *api.Code) { c.Mutexes++ },
		func(c *api.Code) { c.Mutexes = -c.Mutexes },
		func(c *api.Code) { c.Atomics++ },
		func(c *api.Code) { c.Main++ },
		func(c *api.Code) { c.Mutexes, c.Atomics = c.Atomics, c.Mutexes },
		func(c *api.Code) { c.Places = append(c.Places, 1) },
		func(c *api.Code) { c.Places = append(c.Places, 0) },
		func(c *api.Code) { c.Places = c.Places[:5] },
		func(c *api.Code) { c.Places = nil },
		func(c *api.Code) { c.Chans = append(c.Chans, api.Chan{}) },
		func(c *api.Code) { c.Chans = c.Chans[:3] },
		func(c *api.Code) { c.Chans = nil },
		func(c *api.Code) { c.Chans[0], c.Chans[1] = c.Chans[1], c.Chans[0] },
		func(c *api.Code) { c.Funcs = append(c.Funcs, api.Entry{}) },
		func(c *api.Code) { c.Funcs = c.Funcs[:2] },
		func(c *api.Code) { c.Funcs = nil },
		func(c *api.Code) { c.Funcs[0], c.Funcs[1] = c.Funcs[1], c.Funcs[0] },
		func(c *api.Code) { c.Body = append(c.Body, api.Instr{}) },
		func(c *api.Code) { c.Body = c.Body[:25] },
		func(c *api.Code) { c.Body = nil },
		func(c *api.Code) { c.Body[3], c.Body[4] = c.Body[4], c.Body[3] },
	}
	for i := range rich().Places {
		list = append(list, func(c *api.Code) { c.Places[i]++ })
	}
	for i := range rich().Chans {
		list = append(list, func(c *api.Code) { c.Chans[i].Type++ }, func(c *api.Code) { c.Chans[i].Room++ })
	}
	for i, f := range rich().Funcs {
		list = append(list,
			func(c *api.Code) { c.Funcs[i].Start++ }, func(c *api.Code) { c.Funcs[i].Params++ },
			func(c *api.Code) { c.Funcs[i].Locals = append(c.Funcs[i].Locals, 0) }, func(c *api.Code) { c.Funcs[i].Locals = nil })
		for j := range f.Locals {
			list = append(list, func(c *api.Code) { c.Funcs[i].Locals[j]++ })
		}
	}
	for i := range rich().Body {
		list = append(list,
			func(c *api.Code) { c.Body[i].Op++ }, func(c *api.Code) { c.Body[i].A-- }, func(c *api.Code) { c.Body[i].B += 1 << 32 },
			func(c *api.Code) { c.Body[i].Bits ^= 1 << 63 }, func(c *api.Code) { c.Body[i].At-- })
	}
	return list
}

func same(t *testing.T, what string, a, b api.Code, want bool) {
	t.Helper()
	if code.Same(a, b) != want || code.Same(b, a) != want {
		t.Errorf("%s: Same isn't %v: %v, %v", what, want, a, b)
	}
}

// TestSameOfOneChange: a code differs from one that has any other field, in form or not, and is the same as another one with that change.
func TestSameOfOneChange(t *testing.T) {
	same(t, "rich", rich(), rich(), true)
	same(t, "least", least(), least(), true)
	same(t, "greatest", greatest(), greatest(), true)
	same(t, "nothing", api.Code{}, api.Code{}, true)
	same(t, "others", rich(), least(), false)
	same(t, "others", rich(), api.Code{}, false)
	list := changes()
	for i, change := range list {
		same(t, fmt.Sprint("change ", i), rich(), with(rich(), change), false)
		same(t, fmt.Sprint("change ", i, " on both sides"), with(rich(), change), with(rich(), change), true)
		for j, other := range list {
			a, b := with(rich(), change), with(rich(), other)
			same(t, fmt.Sprint("changes ", i, j), a, b, modelSame(a, b))
		}
	}
	same(t, "the last instruction of many", greatest(), with(greatest(), func(c *api.Code) { c.Body[api.MaxCode-1].At-- }), false)
	same(t, "wrong in the same way", api.Code{Main: -7, Mutexes: math.MinInt}, api.Code{Main: -7, Mutexes: math.MinInt}, true)
}

func TestSameOfNilAndEmpty(t *testing.T) {
	empty := api.Code{Places: []int{}, Chans: []api.Chan{}, Funcs: []api.Entry{}, Body: []api.Instr{}}
	same(t, "all lists", empty, api.Code{}, true)
	same(t, "locals", api.Code{Funcs: []api.Entry{{Locals: []int{}}}}, api.Code{Funcs: []api.Entry{{}}}, true)
	same(t, "with spare room", api.Code{Places: make([]int, 0, 9)}, api.Code{}, true)
	same(t, "one that is 0", api.Code{Places: []int{0}}, api.Code{}, false)
	same(t, "one that is 0", api.Code{Chans: []api.Chan{{}}}, api.Code{}, false)
	same(t, "one that is 0", api.Code{Funcs: []api.Entry{{}}}, api.Code{}, false)
	same(t, "one that is 0", api.Code{Body: []api.Instr{{}}}, api.Code{}, false)
	same(t, "one that is 0", api.Code{Funcs: []api.Entry{{Locals: []int{0}}}}, api.Code{Funcs: []api.Entry{{}}}, false)
}

// The operators, in the chapter's order.
func unaries() []string { return []string{"-", "!", "int", "float"} }
func binaries() []string {
	return []string{"+", "-", "*", "/", "%", "==", "!=", "<", "<=", ">", ">="}
}

func TestExampleOperators(t *testing.T) {
	if n, name := code.Binary("=="), code.Operator(10, 3); n != 6 || name != "int" {
		t.Error(n, name)
	}
}

func TestOperators(t *testing.T) {
	for i, name := range unaries() {
		if n, back := code.Unary(name), code.Operator(10, i+1); n != i+1 || back != name {
			t.Errorf("Unary(%q) = %d, Operator(10, %d) = %q", name, n, i+1, back)
		}
	}
	for i, name := range binaries() {
		if n, back := code.Binary(name), code.Operator(11, i+1); n != i+1 || back != name {
			t.Errorf("Binary(%q) = %d, Operator(11, %d) = %q", name, n, i+1, back)
		}
	}
	for _, name := range []string{"!", "int", "float"} {
		if n := code.Binary(name); n != 0 {
			t.Errorf("Binary(%q) = %d", name, n)
		}
	}
	for _, name := range binaries() {
		if n := code.Unary(name); name != "-" && n != 0 {
			t.Errorf("Unary(%q) = %d", name, n)
		}
	}
}

func TestNoOperators(t *testing.T) {
	for _, name := range []string{
		"", " ", "&&", "||", "&", "|", "^", "=", ":=", "=<", "=>", "<>", "===", "!==", "<<", ">>", "--", "++", "- ", " -", "-\x00", "\x00",
		"bool", "Int", "INT", "FLOAT", "in", "ints", "int(", "floa", "float64", "int64", "if", "x", "1", "−", "≤", "\xff", "<= ", "+ -",
	} {
		if a, b := code.Unary(name), code.Binary(name); a != 0 || b != 0 {
			t.Errorf("Unary, Binary of %q = %d, %d", name, a, b)
		}
	}
}

func TestNoNumbers(t *testing.T) {
	for a := -300; a <= 300; a++ {
		for op := -300; op <= 300; op++ {
			want := ""
			if op == 10 && a >= 1 && a <= 4 {
				want = unaries()[a-1]
			}
			if op == 11 && a >= 1 && a <= 11 {
				want = binaries()[a-1]
			}
			if name := code.Operator(op, a); name != want {
				t.Errorf("Operator(%d, %d) = %q, want %q", op, a, name, want)
			}
		}
	}
	for _, far := range []int{math.MinInt, math.MinInt + 1, math.MaxInt, 1<<32 + 1, 1<<32 + 10, 1<<32 + 11, -1 << 32} {
		for _, n := range []int{1, 3, 10, 11, far} {
			if a, b := code.Operator(far, n), code.Operator(n, far); a != "" || b != "" {
				t.Errorf("Operator of %d and %d = %q, %q", far, n, a, b)
			}
		}
	}
}
