package vm_test

import (
	"fmt"
	"math/rand"
	"slices"
	"testing"

	"stockade/api"
	"stockade/proofread"
)

// The tests of P17.1 on many right codes, by many picks and with many fuels, against the model.

// A builder builds a function of a right code: at first each instruction has the one behind as next, and jumps, that all can go there, are set to others later.
type builder struct {
	*rand.Rand
	c      *api.Code
	locals []int
	body   []api.Instr
	stacks []string // at each instruction
	stack  string   // behind the last one
}

// op is an Op by its name.
func op(name string) int {
	return slices.Index(opNames, name) + 1
}

// put adds an instruction that takes so many and gives such ones.
func (b *builder) put(name string, a, more, takes int, gives string) {
	in := api.Instr{Op: op(name), A: a, B: more}
	b.body, b.stacks = append(b.body, in), append(b.stacks, b.stack)
	b.stack = b.stack[:len(b.stack)-takes] + gives
}

// pick is an index of a list at which a type is; -1, if there is none.
func (b *builder) pick(list []int, letter byte) int {
	var places []int
	for i, t := range list {
		if letters[t] == letter {
			places = append(places, i)
		}
	}
	if places == nil {
		return -1
	}
	return places[b.Intn(len(places))]
}

func (b *builder) chanTypes() []int {
	var list []int
	for _, ch := range b.c.Chans {
		list = append(list, ch.Type)
	}
	return list
}

// push puts a type onto the stack, by an instruction of any kind.
func (b *builder) push(letter byte) {
	local, channel := b.pick(b.locals, letter), b.pick(b.chanTypes(), letter)
	switch n := b.Intn(24); {
	case n < 6 && local >= 0:
		b.put("Local", local, 0, 0, string(letter))
	case n < 12:
		b.put("Read", b.pick(b.c.Places, letter), 0, 0, string(letter)) // of each type there is a place
	case n < 15 && letter == 'i':
		b.put("Get", b.Intn(b.c.Atomics), 0, 0, "i")
	case n < 17 && channel >= 0:
		b.constant(letter)
		b.put("Send", channel, 0, 1, "")
		b.put("Recv", channel, 0, 0, string(letter))
	case n < 18 && channel >= 0:
		b.put("Recv", channel, 0, 0, string(letter))
	default:
		b.constant(letter)
	}
}

func (b *builder) constant(letter byte) {
	switch letter {
	case 'i':
		b.put("Int", []int{0, 1, 2, 3, 7, 1<<63 - 1}[b.Intn(6)], 0, 0, "i")
	case 'f':
		b.put("Float", 0, 0, 0, "f")
		b.body[len(b.body)-1].Bits = []uint64{0, 0x3ff0000000000000, 0xc008000000000000, 0x7ff8000000000001, 0x7ff0000000000001, 0x43e0000000000000}[b.Intn(6)]
	default:
		b.put("Bool", b.Intn(2), 0, 0, "b")
	}
}

// pop takes the top from the stack, by an instruction of any kind.
func (b *builder) pop() {
	letter := b.stack[len(b.stack)-1]
	local, channel := b.pick(b.locals, letter), b.pick(b.chanTypes(), letter)
	switch n := b.Intn(12); {
	case n < 4 && local >= 0:
		b.put("SetLocal", local, 0, 1, "")
	case n < 8 && letter == 'i':
		b.put([]string{"Put", "Add"}[n%2], b.Intn(b.c.Atomics), 0, 1, "")
	case n < 9 && channel >= 0:
		b.put("Send", channel, 0, 1, "")
	default:
		b.put("Write", b.pick(b.c.Places, letter), 0, 1, "")
	}
}

// operate puts an operator's operands onto the stack, and then the operator.
func (b *builder) operate() {
	if b.Intn(2) == 0 {
		u := []struct {
			a            int
			takes, gives string
		}{{1, "i", "i"}, {1, "f", "f"}, {2, "b", "b"}, {3, "f", "i"}, {4, "i", "f"}}[b.Intn(5)]
		b.push(u.takes[0])
		b.put("Unary", u.a, 0, 1, u.gives)
		return
	}
	a := 1 + b.Intn(11)
	operand := byte('i')
	if a != 5 && b.Intn(2) == 0 {
		operand = 'f'
	} else if (a == 6 || a == 7) && b.Intn(2) == 0 {
		operand = 'b'
	}
	gives := string(operand)
	if a > 5 {
		gives = "b"
	}
	b.push(operand)
	if (a == 4 || a == 5) && operand == 'i' && b.Intn(3) > 0 {
		b.put("Int", 1+b.Intn(3), 0, 0, "i")
	} else {
		b.push(operand)
	}
	b.put("Binary", a, 0, 2, gives)
}

// element reads or writes an element, the index and the value being put onto the stack first.
func (b *builder) element() {
	a := b.Intn(len(b.c.Places))
	size := 1
	for a+size < len(b.c.Places) && b.c.Places[a+size] == b.c.Places[a] && b.Intn(4) > 0 {
		size++
	}
	letter := letters[b.c.Places[a]]
	if b.Intn(6) == 0 {
		b.push('i')
	} else {
		b.put("Int", b.Intn(size), 0, 0, "i")
	}
	if b.Intn(2) == 0 {
		b.put("ReadElem", a, size, 1, string(letter))
		return
	}
	b.push(letter)
	b.put("WriteElem", a, size, 2, "")
}

func (b *builder) call(name string, a int) {
	params := b.c.Funcs[a].Locals[:b.c.Funcs[a].Params]
	for _, t := range params {
		b.push(letters[t])
	}
	b.put(name, a, 0, len(params), "")
}

// held is something with a mutex locked, that is mostly unlocked behind.
func (b *builder) held() {
	m := b.Intn(b.c.Mutexes)
	b.put("Lock", m, 0, 0, "")
	for range b.Intn(2) {
		b.add()
	}
	if b.Intn(8) > 0 {
		b.put("Unlock", m, 0, 0, "")
	}
}

// add adds an instruction or some.
func (b *builder) add() {
	switch n := b.Intn(24); {
	case n < 5 && len(b.stack) < 40:
		b.push("ifb"[b.Intn(3)])
	case n < 9 && b.stack != "":
		b.pop()
	case n < 11:
		b.held()
	case n < 13:
		b.put("Turn", 0, 0, 0, "")
	case n < 15:
		b.operate()
	case n < 18:
		b.element()
	case n < 20:
		b.call("Call", b.Intn(len(b.c.Funcs)))
	case n == 20 && b.Intn(6) == 0:
		b.call("Go", b.Intn(len(b.c.Funcs)))
	case n < 22:
		b.push('b')
		b.put("JumpIf", len(b.body)+1, b.Intn(2), 1, "")
	case n == 22 && b.Intn(6) == 0:
		b.put("Unlock", b.Intn(b.c.Mutexes), 0, 0, "")
	default: // a Short that is set to go on behind the Bool, where the stack is that with its own
		b.push('b')
		b.put("Short", len(b.body)+2, b.Intn(2), 1, "")
		b.put("Bool", b.Intn(2), 0, 0, "b")
	}
}

// end empties the stack and returns, or fails, or jumps back.
func (b *builder) end() {
	if b.Intn(5) == 0 {
		b.push('i')
		b.put("Fail", 0, 0, 0, "")
		return
	}
	if to := b.target(len(b.body), b.stack); to >= 0 && b.Intn(2) == 0 {
		b.put("Jump", to, 0, 0, "")
		return
	}
	for b.stack != "" {
		b.pop()
	}
	b.put("Return", 0, 0, 0, "")
}

// target is a place to which the instruction at another one may jump with a stack; -1, if none was found.
func (b *builder) target(from int, stack string) int {
	for range 20 {
		to := b.Intn(len(b.stacks) + 1)
		if to != from && to < len(b.stacks) && b.stacks[to] == stack && (to > from || b.body[to].Op == op("Turn")) {
			return to
		}
	}
	return -1
}

// turn sets a jump to another place that has the stack it needs, and makes a Turn a Jump or a Return now and then.
func (b *builder) turn(at int) {
	stack := b.stacks[at]
	switch opNames[b.body[at].Op-1] {
	case "JumpIf":
		stack = stack[:len(stack)-1]
	case "Short":
	case "Turn":
		if b.Intn(3) > 0 || b.aimedAt(at) {
			return
		}
		if stack == "" && b.Intn(3) == 0 {
			b.body[at].Op = op("Return")
		} else if to := b.target(at, stack); to >= 0 {
			b.body[at] = api.Instr{Op: op("Jump"), A: to}
		}
		return
	default:
		return
	}
	if to := b.target(at, stack); to >= 0 {
		b.body[at].A = to
	}
}

// aimedAt tells whether a jump goes to a place.
func (b *builder) aimedAt(place int) bool {
	return slices.ContainsFunc(b.body, func(in api.Instr) bool {
		return in.Op >= op("Jump") && in.Op <= op("Short") && in.A == place
	})
}

// function is the instructions of a random function.
func (b *builder) function(size int, main bool) []api.Instr {
	for i := b.Intn(3); main && i > 0; i-- {
		b.call("Go", (b.c.Main+i)%len(b.c.Funcs))
	}
	for len(b.body) < size {
		b.add()
	}
	b.end()
	for i := range b.body {
		b.turn(i)
	}
	return b.body
}

// randomCode is a right code of some functions.
func randomCode(r *rand.Rand) api.Code {
	some := func(n int) []int {
		var list []int
		for range n {
			list = append(list, 1+r.Intn(3))
		}
		return list
	}
	c := api.Code{Places: append(some(r.Intn(5)), 1, 1, 1, 2, 2, 3, 3), Mutexes: 1 + r.Intn(3), Atomics: 1 + r.Intn(3)}
	for _, t := range some(1 + r.Intn(4)) {
		c.Chans = append(c.Chans, api.Chan{Type: t, Room: max(0, r.Intn(6)-1)})
	}
	for range 1 + r.Intn(4) {
		list := some(r.Intn(7))
		c.Funcs = append(c.Funcs, api.Entry{Params: r.Intn(1 + min(len(list), 4)), Locals: list})
	}
	c.Main = r.Intn(len(c.Funcs))
	c.Funcs[c.Main].Params = 0
	for i, f := range c.Funcs {
		b := &builder{Rand: r, c: &c, locals: f.Locals}
		start := len(c.Body)
		for _, in := range b.function(1+r.Intn(30), i == c.Main) {
			if in.Op >= op("Jump") && in.Op <= op("Short") {
				in.A += start
			}
			in.At = at(len(c.Body))
			c.Body = append(c.Body, in)
		}
		c.Funcs[i].Start = start
	}
	return c
}

// changed is a code with a change of a number, of an instruction, or of none.
func changed(r *rand.Rand, c api.Code) api.Code {
	c = apart(c)
	place := r.Intn(len(c.Body))
	switch r.Intn(9) {
	case 0:
		c.Body[place].A += 1 - 2*r.Intn(2)
	case 1:
		c.Body[place].Op = 1 + r.Intn(26)
	case 2:
		c.Body[place] = c.Body[r.Intn(len(c.Body))]
	case 3:
		c.Body[place] = api.Instr{Op: op("Jump") + r.Intn(3), A: r.Intn(len(c.Body) + 1)}
	case 4:
		c.Body[place] = api.Instr{Op: op("Turn") + r.Intn(3)}
	case 5:
		c.Body = slices.Delete(c.Body, place, place+1)
	case 6:
		f := &c.Funcs[r.Intn(len(c.Funcs))]
		f.Start += r.Intn(3) - 1
	case 7:
		list := [][]int{c.Places, c.Funcs[r.Intn(len(c.Funcs))].Locals}[r.Intn(2)]
		if len(list) > 0 {
			list[r.Intn(len(list))] = 1 + r.Intn(3)
		}
	}
	return c
}

func randomPicks(r *rand.Rand) []int {
	var list []int
	for range r.Intn(13) {
		list = append(list, r.Intn(12)-1)
	}
	return list
}

// An outcomes counts what runs came to, so that none of it is missed.
type outcomes map[string]int

func (c outcomes) add(events []api.Event, end api.End) {
	for _, e := range events {
		c[kindNames[e.Kind]]++
	}
	c[fmt.Sprintf("%v %v", []string{"", "Finished", "Deadlock", "Faulted", "FuelOut"}[end.Outcome], faultNames[end.Fault])]++
}

func (c outcomes) need(t *testing.T, least int, names ...string) {
	t.Helper()
	for _, name := range names {
		if c[name] < least {
			t.Errorf("%q came %d times: %v", name, c[name], c)
		}
	}
}

// allEnds is how a run may end, if its fuel does for it or not.
var allEnds = []string{"Finished none", "Deadlock none", "FuelOut none", "Faulted FaultZero", "Faulted FaultIndex", "Faulted FaultConv", "Faulted FaultUnlock", "Faulted FaultGo", "Faulted FaultCalls", "Faulted FaultFail"}

// TestRandomCodes: what all goroutines wait for, event by event, and what each play comes to.
func TestRandomCodes(t *testing.T) {
	r := rand.New(rand.NewSource(173))
	var counts tally
	ends := outcomes{}
	for range many(6000) {
		c := randomCode(r)
		if proofread.Check(c) != nil {
			t.Fatal("the test's code isn't right: ", c)
		}
		for range 3 {
			ends.add(checkPlay(t, c, randomPicks(r), r.Intn(300)))
		}
		checkSteps(t, c, &counts, r.Intn, 100)
	}
	counts.need(t, many(500))
	ends.need(t, many(1000), kindNames[1:]...)
	ends.need(t, many(100), allEnds...)
}

// TestAllFuels plays some codes with every fuel.
func TestAllFuels(t *testing.T) {
	r := rand.New(rand.NewSource(174))
	for range many(300) {
		checkFuels(t, randomCode(r), randomPicks(r), 80)
	}
}
