package comp

import (
	"slices"

	"stockade/api"
	"stockade/code"
)

// A writer writes the instructions of a typed program, one behind the other.
type writer struct {
	ops, stores map[int]int
	body        []api.Instr
}

func compile(p api.Program) api.Code {
	w := &writer{ops: ops(), stores: stores()}
	c := api.Code{
		Places:  slices.Clone(p.Places),
		Mutexes: p.Mutexes,
		Atomics: p.Atomics,
		Chans:   slices.Clone(p.Chans),
		Main:    p.Main,
	}
	for _, f := range p.Funcs {
		c.Funcs = append(c.Funcs, w.function(f))
	}
	c.Body = w.body
	return c
}

func (w *writer) function(f api.Func) api.Entry {
	start := len(w.body)
	w.nodes(f.Block.Kids)
	w.write(opReturn, f.Block)
	return api.Entry{Start: start, Params: f.Params, Locals: types(f.Locals)}
}

// types is the types of a function's locals. One that has none isn't used anywhere, but a code in form has a type of each.
func types(locals []int) []int {
	list := slices.Clone(locals)
	for i, t := range list {
		if t == 0 {
			list[i] = api.TInt
		}
	}
	return list
}

// write writes an instruction of a node, and answers its place. What the node tells are the instruction's fields: all that the Op doesn't look at are 0 in a node of a typed program.
func (w *writer) write(op int, n api.Node) int {
	w.body = append(w.body, api.Instr{Op: op, A: number(n), B: n.Size, Bits: n.Bits, At: n.At})
	return len(w.body) - 1
}

// land makes the instruction at a place go on behind all that is written by now: where that is wasn't known when it was written.
func (w *writer) land(jump int) {
	w.body[jump].A = len(w.body)
}

func (w *writer) nodes(list []api.Node) {
	for _, n := range list {
		w.node(n)
	}
}

// node writes a statement or an expression. Of targets a KElem alone has a kid.
func (w *writer) node(n api.Node) {
	switch n.Kind {
	case api.KSet:
		w.nodes(n.Kids[0].Kids)
		w.node(n.Kids[1])
		w.store(n.Kids[0])
	case api.KRecv, api.KGet:
		w.nodes(n.Kids[0].Kids)
		w.write(w.ops[n.Kind], n)
		w.store(n.Kids[0])
	case api.KIf:
		w.branch(n)
	case api.KWhile:
		w.loop(n)
	case api.KBinary:
		w.binary(n)
	default:
		w.nodes(n.Kids)
		w.write(w.ops[n.Kind], n)
	}
}

// store writes the store into a target whose kid, if it has one, is written already.
func (w *writer) store(target api.Node) {
	w.write(w.stores[target.Kind], target)
}

// binary writes a KBinary. Those operators that layer 14 doesn't number are && and ||.
func (w *writer) binary(n api.Node) {
	w.node(n.Kids[0])
	if code.Binary(n.Name) > 0 {
		w.node(n.Kids[1])
		w.write(opBinary, n)
		return
	}
	short := w.write(opShort, n)
	if n.Name == "||" {
		w.body[short].B = 1
	}
	w.node(n.Kids[1])
	w.land(short)
}

func (w *writer) branch(n api.Node) {
	w.node(n.Kids[0])
	past := w.write(opJumpIf, n)
	w.nodes(n.Kids[1].Kids)
	if len(n.Kids) == 3 {
		end := w.write(opJump, n)
		w.land(past)
		w.nodes(n.Kids[2].Kids)
		past = end
	}
	w.land(past)
}

func (w *writer) loop(n api.Node) {
	turn := w.write(opTurn, n)
	w.node(n.Kids[0])
	past := w.write(opJumpIf, n)
	w.nodes(n.Kids[1].Kids)
	again := w.write(opJump, n)
	w.body[again].A = turn
	w.land(past)
}
