package code_test

import (
	"math"
	"math/rand"
	"slices"
	"testing"

	"stockade/api"
)

// The tests of P14.2, and of P14.1 beside it, on many codes and bytes.

// many is how often something is tried.
func many(n int) int {
	if testing.Short() {
		return n / 10
	}
	return n
}

// randomCode is a code in form.
func randomCode(r *rand.Rand) api.Code {
	types := func(n int) []int {
		var list []int
		last := 1 + r.Intn(3)
		for range n {
			if r.Intn(4) == 0 {
				last = 1 + r.Intn(3)
			}
			list = append(list, last)
		}
		return list
	}
	c := api.Code{Places: types(r.Intn(1 + r.Intn(api.MaxPlaces+1)))}
	c.Mutexes = r.Intn(1 + r.Intn(api.MaxObjects+1))
	c.Atomics = r.Intn(1 + api.MaxObjects - c.Mutexes)
	for range r.Intn(1 + api.MaxObjects - c.Mutexes - c.Atomics) {
		c.Chans = append(c.Chans, api.Chan{Type: 1 + r.Intn(3), Room: r.Intn(api.MaxRoom + 1)})
	}
	instrs := 1 + r.Intn(60)
	starts := r.Perm(instrs)[:1+r.Intn(min(instrs, api.MaxFuncs))]
	starts[0] = 0
	slices.Sort(starts)
	for _, start := range slices.Compact(starts) {
		locals := types(r.Intn(1 + r.Intn(api.MaxLocals+1)))
		c.Funcs = append(c.Funcs, api.Entry{Start: start, Params: r.Intn(1 + min(len(locals), api.MaxParams)), Locals: locals})
	}
	c.Main = r.Intn(len(c.Funcs))
	c.Funcs[c.Main].Params = 0
	c.Body = make([]api.Instr, instrs)
	for i := range c.Body {
		c.Body[i] = randomInstr(r, c)
	}
	return c
}

// randomInstr is an instruction in form: fields are drawn till they are, which the model tells.
func randomInstr(r *rand.Rand, c api.Code) api.Instr {
	for {
		in := api.Instr{Op: 1 + r.Intn(26), At: r.Intn(api.MaxText + 1)}
		switch in.Op {
		case opInt:
			in.A = r.Int() >> r.Intn(64)
		case opFloat:
			in.Bits = r.Uint64() >> r.Intn(64)
		case opReadElem, opWriteElem:
			in.A, in.B = r.Intn(api.MaxPlaces), 1+r.Intn(1+r.Intn(api.MaxElems))
		case opTurn, opReturn, opFail:
		default:
			in.A, in.B = r.Intn(1+r.Intn(64)), r.Intn(2)
		}
		if modelInstr(c, in) {
			return in
		}
	}
}

func TestGetOfPut(t *testing.T) {
	r := rand.New(rand.NewSource(141))
	for range many(5000) {
		c := randomCode(r)
		if !modelForm(c) {
			t.Fatal("the test's code isn't in form: ", c)
		}
		takes(t, "a random code", c)
		if t.Failed() {
			return
		}
	}
}

// oddNumber is what a field is changed to: often near to what it was, or what that becomes if it is cut.
func oddNumber(r *rand.Rand, was int) int {
	switch r.Intn(6) {
	case 0:
		return was + r.Intn(3) - 1
	case 1:
		return r.Intn(140)
	case 2:
		return -r.Intn(3)
	case 3:
		return was + 1<<(8*r.Intn(8))
	case 4:
		return []int{math.MinInt, math.MaxInt, api.MaxText, api.MaxText + 1, api.MaxCode, math.MaxUint32}[r.Intn(6)]
	}
	return r.Int() - r.Int()
}

// change changes a number of a code.
func change(r *rand.Rand, c *api.Code) {
	fields := []*int{&c.Mutexes, &c.Atomics, &c.Main}
	for i := range c.Places {
		fields = append(fields, &c.Places[i])
	}
	for i := range c.Chans {
		fields = append(fields, &c.Chans[i].Type, &c.Chans[i].Room)
	}
	for i, f := range c.Funcs {
		fields = append(fields, &c.Funcs[i].Start, &c.Funcs[i].Params)
		for j := range f.Locals {
			fields = append(fields, &c.Funcs[i].Locals[j])
		}
	}
	for i := range c.Body {
		fields = append(fields, &c.Body[i].Op, &c.Body[i].A, &c.Body[i].B, &c.Body[i].At)
	}
	f := fields[r.Intn(len(fields))]
	*f = oddNumber(r, *f)
}

// TestChangedCodes: what isn't in form by the model is refused, and nothing else is.
func TestChangedCodes(t *testing.T) {
	r := rand.New(rand.NewSource(142))
	took, refused := 0, 0
	for range many(20000) {
		c := randomCode(r)
		for range 1 + r.Intn(2) {
			change(r, &c)
		}
		if modelForm(c) {
			took++
			takes(t, "a changed code", c)
		} else {
			refused++
			refuses(t, "a changed code", c)
		}
		if t.Failed() {
			return
		}
	}
	if took < many(2000) || refused < many(2000) {
		t.Error(took, refused)
	}
}

// TestPutOfGet: of many rows of bytes, most of them near to those of a code; holds asks that what Get takes, Put writes as it was.
func TestPutOfGet(t *testing.T) {
	r := rand.New(rand.NewSource(143))
	took, refused := 0, 0
	for range many(20000) {
		b := modelBytes(randomCode(r))
		for range r.Intn(3) {
			at := r.Intn(len(b))
			switch r.Intn(6) {
			case 0:
				b[at] = byte(r.Intn(256))
			case 1, 2:
				b[at] += byte(r.Intn(3)) - 1
			case 3:
				b = slices.Delete(b, at, at+1+r.Intn(min(30, len(b)-at)))
			case 4:
				b = slices.Insert(b, at, make([]byte, 1+r.Intn(30))...)
			case 5:
				b[r.Intn(28)] ^= 1 << r.Intn(8)
			}
			if len(b) == 0 {
				break
			}
		}
		if holds(t, b) {
			took++
		} else {
			refused++
		}
		if t.Failed() {
			return
		}
	}
	if took < many(2000) || refused < many(2000) {
		t.Error(took, refused)
	}
}

// TestAnyBytes: rows of any bytes, and of few different ones.
func TestAnyBytes(t *testing.T) {
	r := rand.New(rand.NewSource(144))
	for range many(50000) {
		b := make([]byte, r.Intn(120))
		few := 1 + r.Intn(256)
		for i := range b {
			b[i] = byte(r.Intn(few))
		}
		holds(t, b)
	}
}

// TestShortBodies: all codes of one function with one or two instructions of small fields, each by its bytes.
func TestShortBodies(t *testing.T) {
	took := 0
	for op := range 30 {
		for a := range 14 {
			for b := range 4 {
				c := rich()
				c.Funcs, c.Main = []api.Entry{{}}, 0
				c.Body = []api.Instr{{Op: op, A: a, B: b}, {Op: opReturn}}
				if modelForm(c) {
					took++
					takes(t, "a short body", c)
				} else {
					refuses(t, "a short body", c)
				}
			}
		}
	}
	// By hand: Int 14, Float 1, Bool 2, locals 28, places 12, rows 2 * 10, Unary 4, Binary 11, Jump 2, JumpIf and Short 8, mutexes 4, channels 8, atomics 9, functions 2, and 3.
	if want := 14 + 1 + 2 + 28 + 12 + 2*10 + 4 + 11 + 2 + 8 + 4 + 8 + 9 + 2 + 3; took != want {
		t.Errorf("%d are in form, want %d", took, want)
	}
}
