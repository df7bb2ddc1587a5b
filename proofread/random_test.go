package proofread_test

import (
	"math"
	"math/rand"
	"slices"
	"testing"

	"stockade/api"
)

// The tests of P16.1 on many codes against the model.

// A builder builds a function of a right code: at first each instruction has the one behind as next, and jumps, that all can go there, are set to others later.
type builder struct {
	*rand.Rand
	c      *api.Code
	locals []int
	body   []api.Instr
	stacks []string // at each instruction
	stack  string   // behind the last one
}

func (b *builder) put(in api.Instr, takes int, gives string) {
	b.body, b.stacks = append(b.body, in), append(b.stacks, b.stack)
	b.stack = b.stack[:len(b.stack)-takes] + gives
}

// pick is an index of a list at which a type is; -1, if there is none.
func (b *builder) pick(list []int, letter byte) int {
	var places []int
	for i, t := range list {
		if letters[t] == letter {
			places = append(places, i)
		}
	}
	if places == nil {
		return -1
	}
	return places[b.Intn(len(places))]
}

func (b *builder) chanTypes() []int {
	var list []int
	for _, ch := range b.c.Chans {
		list = append(list, ch.Type)
	}
	return list
}

// push puts a type onto the stack, by an instruction of any kind.
func (b *builder) push(letter byte) {
	ways := []struct {
		op   string
		from []int
	}{{"Local 0", b.locals}, {"Read 0", b.c.Places}, {"Recv 0", b.chanTypes()}}
	way := ways[b.Intn(len(ways))]
	in := instr(way.op)
	if in.A = b.pick(way.from, letter); in.A < 0 || b.Intn(2) == 0 {
		in = instr(map[byte]string{'i': "Int 3", 'f': "Float 3ff0000000000000", 'b': "Bool 1"}[letter])
		if letter == 'i' && b.Intn(2) == 0 {
			in = instr("Get 0")
		}
	}
	b.put(in, 0, string(letter))
}

// pop takes the top from the stack, by an instruction of any kind.
func (b *builder) pop() {
	letter := b.stack[len(b.stack)-1]
	ways := []struct {
		op   string
		from []int
	}{{"SetLocal 0", b.locals}, {"Write 0", b.c.Places}, {"Send 0", b.chanTypes()}}
	way := ways[b.Intn(len(ways))]
	in := instr(way.op)
	if in.A = b.pick(way.from, letter); in.A < 0 {
		in = api.Instr{Op: 7, A: b.pick(b.c.Places, letter)} // of each type there is a place
	}
	if letter == 'i' && b.Intn(2) == 0 {
		in = api.Instr{Op: 20 + b.Intn(2)}
	}
	b.put(in, 1, "")
}

// operate puts an operator's operands onto the stack, and then the operator.
func (b *builder) operate() {
	if b.Intn(2) == 0 {
		u := []struct {
			a            int
			takes, gives string
		}{{1, "i", "i"}, {1, "f", "f"}, {2, "b", "b"}, {3, "f", "i"}, {4, "i", "f"}}[b.Intn(5)]
		b.push(u.takes[0])
		b.put(api.Instr{Op: 10, A: u.a}, 1, u.gives)
		return
	}
	a := 1 + b.Intn(11)
	operand := byte('i')
	if a != 5 && b.Intn(2) == 0 {
		operand = 'f'
	} else if (a == 6 || a == 7) && b.Intn(2) == 0 {
		operand = 'b'
	}
	gives := string(operand)
	if a > 5 {
		gives = "b"
	}
	b.push(operand)
	b.push(operand)
	b.put(api.Instr{Op: 11, A: a}, 2, gives)
}

// element reads or writes an element, the index and the value being put onto the stack first.
func (b *builder) element() {
	a := b.Intn(len(b.c.Places))
	size := 1
	for a+size < len(b.c.Places) && b.c.Places[a+size] == b.c.Places[a] && b.Intn(2) == 0 {
		size++
	}
	letter := letters[b.c.Places[a]]
	b.push('i')
	if b.Intn(2) == 0 {
		b.put(api.Instr{Op: 8, A: a, B: size}, 1, string(letter))
		return
	}
	b.push(letter)
	b.put(api.Instr{Op: 9, A: a, B: size}, 2, "")
}

func (b *builder) call() {
	a := b.Intn(len(b.c.Funcs))
	params := lettered(b.c.Funcs[a].Locals[:b.c.Funcs[a].Params])
	for _, letter := range []byte(params) {
		b.push(letter)
	}
	b.put(api.Instr{Op: 22 + b.Intn(2), A: a}, len(params), "")
}

// add adds an instruction or some.
func (b *builder) add() {
	switch n := b.Intn(12); {
	case n < 3 && len(b.stack) < 40:
		b.push("ifb"[b.Intn(3)])
	case n < 4 && b.stack != "":
		b.pop()
	case n == 4:
		b.put(api.Instr{Op: 15 + b.Intn(2)}, 0, "")
	case n < 7:
		b.put(instr("Turn"), 0, "")
	case n == 7:
		b.operate()
	case n == 8:
		b.element()
	case n == 9:
		b.call()
	case n == 10:
		b.push('b')
		b.put(api.Instr{Op: 13, A: len(b.body) + 1, B: b.Intn(2)}, 1, "")
	default: // a Short that is set to go on behind the Bool, where the stack is that with its own
		b.push('b')
		b.put(api.Instr{Op: 14, A: len(b.body) + 2, B: b.Intn(2)}, 1, "")
		b.push('b')
	}
}

// end empties the stack and returns, or fails, or jumps back.
func (b *builder) end() {
	if b.Intn(3) == 0 {
		b.push('i')
		b.put(instr("Fail"), 0, "")
		return
	}
	if to := b.target(len(b.body), b.stack); to >= 0 && b.Intn(2) == 0 {
		b.put(api.Instr{Op: 12, A: to}, 0, "")
		return
	}
	for b.stack != "" {
		b.pop()
	}
	b.put(instr("Return"), 0, "")
}

// target is a place to which the instruction at another one may jump with a stack; -1, if none was found.
func (b *builder) target(from int, stack string) int {
	for range 20 {
		to := b.Intn(len(b.stacks) + 1)
		if to != from && to < len(b.stacks) && b.stacks[to] == stack && (to > from || b.body[to] == instr("Turn")) {
			return to
		}
	}
	return -1
}

// turn sets a jump to another place that has the stack it needs, and makes a Turn a Jump now and then.
func (b *builder) turn(at int) {
	stack := b.stacks[at]
	switch opNames[b.body[at].Op-1] {
	case "JumpIf":
		stack = stack[:len(stack)-1]
	case "Short":
	case "Turn":
		if b.Intn(3) > 0 || b.aimedAt(at) {
			return
		}
		if to := b.target(at, stack); to >= 0 {
			b.body[at] = api.Instr{Op: 12, A: to}
		}
		return
	default:
		return
	}
	if to := b.target(at, stack); to >= 0 {
		b.body[at].A = to
	}
}

// function is the instructions of a random function.
func (b *builder) function(size int) []api.Instr {
	for len(b.body) < size {
		b.add()
	}
	b.end()
	for i := range b.body {
		b.turn(i)
	}
	return b.body
}

// aimedAt tells whether a jump goes to a place.
func (b *builder) aimedAt(place int) bool {
	return slices.ContainsFunc(b.body, func(in api.Instr) bool {
		return in.Op >= 12 && in.Op <= 14 && in.A == place
	})
}

// randomCode is a right code of some functions.
func randomCode(r *rand.Rand) api.Code {
	some := func(n int) []int {
		var list []int
		for range n {
			list = append(list, 1+r.Intn(3))
		}
		return list
	}
	c := api.Code{Places: append(some(r.Intn(5)), 1, 1, 2, 3, 3), Mutexes: 1 + r.Intn(3), Atomics: 1 + r.Intn(3)}
	for _, t := range some(1 + r.Intn(3)) {
		c.Chans = append(c.Chans, api.Chan{Type: t, Room: r.Intn(9)})
	}
	for range 1 + r.Intn(4) {
		list := some(r.Intn(7))
		c.Funcs = append(c.Funcs, api.Entry{Params: r.Intn(1 + min(len(list), 4)), Locals: list})
	}
	c.Main = r.Intn(len(c.Funcs))
	c.Funcs[c.Main].Params = 0
	for i, f := range c.Funcs {
		b := &builder{Rand: r, c: &c, locals: f.Locals}
		start := len(c.Body)
		for _, in := range b.function(1 + r.Intn(30)) {
			if slices.Contains([]string{"Jump", "JumpIf", "Short"}, opNames[in.Op-1]) {
				in.A += start
			}
			c.Body = append(c.Body, in)
		}
		c.Funcs[i].Start = start
	}
	return c
}

// changed is a code with a change of a number, of an instruction, or of none.
func changed(r *rand.Rand, c api.Code) api.Code {
	c = apart(c)
	at := r.Intn(len(c.Body))
	switch r.Intn(9) {
	case 0:
		c.Body[at].A += 1 - 2*r.Intn(2)
	case 1:
		c.Body[at].Op = 1 + r.Intn(26)
	case 2:
		c.Body[at] = c.Body[r.Intn(len(c.Body))]
	case 3:
		c.Body[at] = api.Instr{Op: 12 + r.Intn(3), A: r.Intn(len(c.Body) + 1)}
	case 4:
		c.Body[at] = api.Instr{Op: 24 + r.Intn(3)}
	case 5:
		c.Body = slices.Delete(c.Body, at, at+1)
	case 6:
		f := &c.Funcs[r.Intn(len(c.Funcs))]
		f.Start += r.Intn(3) - 1
	case 7:
		list := [][]int{c.Places, c.Funcs[r.Intn(len(c.Funcs))].Locals}[r.Intn(2)]
		if len(list) > 0 {
			list[r.Intn(len(list))] = 1 + r.Intn(3)
		}
	}
	return c
}

// TestRandomCodes: right codes, in which each Op comes often.
func TestRandomCodes(t *testing.T) {
	r := rand.New(rand.NewSource(162))
	var counts [27]int
	deep, back := 0, 0
	for range many(12000) {
		c := randomCode(r)
		list, ok := modelStacks(c)
		if !ok {
			t.Fatal("the test's code isn't right: ", told(c))
		}
		checkRight(t, c, list)
		for i, in := range c.Body {
			counts[in.Op]++
			deep = max(deep, len(list[i]))
			if in.Op >= 12 && in.Op <= 14 && in.A <= i {
				back++
			}
		}
		if t.Failed() {
			return
		}
	}
	for op, n := range counts[1:] {
		if n < many(1000) {
			t.Errorf("%s came %d times", opNames[op], n)
		}
	}
	if deep < 12 || back < many(4000) {
		t.Error(deep, back)
	}
}

// TestChangedCodes: what isn't right by the model is refused, and nothing else is.
func TestChangedCodes(t *testing.T) {
	r := rand.New(rand.NewSource(163))
	took, refused := 0, 0
	for range many(30000) {
		c := randomCode(r)
		for range 1 + r.Intn(2) {
			c = changed(r, c)
		}
		if checkModel(t, c) {
			took++
		} else {
			refused++
		}
		if t.Failed() {
			return
		}
	}
	if took < many(5000) || refused < many(10000) {
		t.Error(took, refused)
	}
}

// TestAllShortBodies: all rows of up to four of some instructions.
func TestAllShortBodies(t *testing.T) {
	took := [5]int{}
	for n := 1; n <= 4; n++ {
		var list []api.Instr
		for _, text := range []string{"Int 1", "Bool 1", "SetLocal 2", "Unary 2", "Turn", "Return", "Fail"} {
			list = append(list, instr(text))
		}
		for a := range n {
			list = append(list, api.Instr{Op: 12, A: a}, api.Instr{Op: 13, A: a}, api.Instr{Op: 14, A: a, B: 1})
		}
		total := int(math.Pow(float64(len(list)), float64(n)))
		for number := range total {
			c := api.Code{Funcs: []api.Entry{{Locals: types("ifb")}}}
			for range n {
				c.Body = append(c.Body, list[number%len(list)])
				number /= len(list)
			}
			if checkModel(t, c) {
				took[n]++
			}
		}
		if t.Failed() {
			return
		}
	}
	// By hand, of one: Return. Of two: Return and any of 13; Turn, Return; Turn, Jump 0; Jump 1, Return; Int 1, Fail.
	if took[1] != 1 || took[2] != 13+4 {
		t.Error(took)
	}
}

// TestAllPairsOfFunctions: all rows of four of some instructions as two functions, the second one beginning at each place.
func TestAllPairsOfFunctions(t *testing.T) {
	list := []string{"Int 1", "SetLocal 0", "Turn", "Return", "Fail", "Jump 0", "Jump 1", "Jump 2", "Jump 3", "Call 1", "Local 0"}
	took := 0
	for number := range 11 * 11 * 11 * 11 {
		c := api.Code{Main: 0}
		for range 4 {
			c.Body = append(c.Body, instr(list[number%11]))
			number /= 11
		}
		for start := range 5 {
			c.Funcs = []api.Entry{{Locals: types("i")}, {Start: start, Params: 1, Locals: types("i")}}
			if checkModel(t, c) {
				took++
			}
		}
		if t.Failed() {
			return
		}
	}
	if took < 500 {
		t.Error(took)
	}
}

// TestAnyCodes: codes of any numbers, near to none.
func TestAnyCodes(t *testing.T) {
	r := rand.New(rand.NewSource(164))
	number := func() int {
		switch r.Intn(8) {
		case 0:
			return []int{math.MinInt, math.MaxInt, -1, 1 << 32, 64, 128, 8192}[r.Intn(7)]
		case 1:
			return r.Intn(30) - 5
		}
		return r.Intn(4)
	}
	numbers := func(n int) []int {
		var list []int
		for range n {
			list = append(list, number())
		}
		return list
	}
	for range many(50000) {
		c := api.Code{Places: numbers(r.Intn(4)), Mutexes: number(), Atomics: number(), Main: number()}
		for range r.Intn(3) {
			c.Chans = append(c.Chans, api.Chan{Type: number(), Room: number()})
		}
		for range r.Intn(4) {
			c.Funcs = append(c.Funcs, api.Entry{Start: number(), Params: number(), Locals: numbers(r.Intn(4))})
		}
		for range r.Intn(8) {
			in := api.Instr{Op: number() * r.Intn(8), A: number()}
			if r.Intn(10) == 0 {
				in.B, in.Bits, in.At = number(), uint64(number()), number()
			}
			c.Body = append(c.Body, in)
		}
		checkModel(t, c)
		if t.Failed() {
			return
		}
	}
}
