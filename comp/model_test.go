package comp_test

import (
	"slices"
	"strings"

	"stockade/api"
)

// A model of the chapter in the tests' own words: jumps go to labels, and where these stand is looked for when all is written.

// A line is an instruction, or (Op 0) a label.
type line struct {
	api.Instr
	label int // of a jump the one that it goes to; 0 of other instructions
}

type page struct {
	lines []line
	last  int // label
}

func (m *page) put(op, a, b int, bits uint64, at int) {
	m.lines = append(m.lines, line{Instr: api.Instr{Op: op, A: a, B: b, Bits: bits, At: at}})
}

func (m *page) jump(op, b, at, label int) {
	m.lines = append(m.lines, line{api.Instr{Op: op, B: b, At: at}, label})
}

func (m *page) new() int {
	m.last++
	return m.last
}

func (m *page) here(label int) {
	m.lines = append(m.lines, line{label: label})
}

// body is the instructions of all lines, which begin at a place of the body.
func (m *page) body(start int) []api.Instr {
	var list []api.Instr
	places := map[int]int{}
	for pass := range 2 {
		place := start
		for _, l := range m.lines {
			if l.Op == 0 {
				places[l.label] = place
				continue
			}
			place++
			if l.label > 0 {
				l.A = places[l.label]
			}
			if pass == 1 {
				list = append(list, l.Instr)
			}
		}
	}
	return list
}

// modelCode is the code of a typed program, however many instructions it has.
func modelCode(p api.Program) api.Code {
	c := api.Code{Places: slices.Clone(p.Places), Mutexes: p.Mutexes, Atomics: p.Atomics, Chans: slices.Clone(p.Chans), Main: p.Main}
	for _, f := range p.Funcs {
		e := api.Entry{Start: len(c.Body), Params: f.Params}
		for _, t := range f.Locals {
			e.Locals = append(e.Locals, max(t, 1))
		}
		c.Funcs = append(c.Funcs, e)
		m := &page{}
		m.block(f.Block)
		m.put(25, 0, 0, 0, f.Block.At)
		c.Body = append(c.Body, m.body(e.Start)...)
	}
	return c
}

func (m *page) block(n api.Node) {
	for _, s := range n.Kids {
		m.stmt(s)
	}
}

func (m *page) expr(n api.Node) {
	switch n.Kind {
	case api.KInt:
		m.put(1, n.N, 0, 0, n.At)
	case api.KFloat:
		m.put(2, 0, 0, n.Bits, n.At)
	case api.KBool:
		m.put(3, n.N, 0, 0, n.At)
	case api.KLocal:
		m.put(4, n.N, 0, 0, n.At)
	case api.KPlace:
		m.put(6, n.N, 0, 0, n.At)
	case api.KElem:
		m.expr(n.Kids[0])
		m.put(8, n.N, n.Size, 0, n.At)
	case api.KUnary:
		m.expr(n.Kids[0])
		m.put(10, slices.Index([]string{"", "-", "!", "int", "float"}, n.Name), 0, 0, n.At)
	case api.KBinary:
		m.expr(n.Kids[0])
		if b := strings.Index("&|", n.Name[:1]); b >= 0 {
			end := m.new()
			m.jump(14, b, n.At, end)
			m.expr(n.Kids[1])
			m.here(end)
			return
		}
		m.expr(n.Kids[1])
		m.put(11, slices.Index(strings.Fields("none + - * / % == != < <= > >="), n.Name), 0, 0, n.At)
	default:
		panic("no expression")
	}
}

func (m *page) exprs(list []api.Node) {
	for _, n := range list {
		m.expr(n)
	}
}

func (m *page) index(target api.Node) {
	if target.Kind == api.KElem {
		m.expr(target.Kids[0])
	}
}

func (m *page) store(target api.Node) {
	switch target.Kind {
	case api.KLocal:
		m.put(5, target.N, 0, 0, target.At)
	case api.KPlace:
		m.put(7, target.N, 0, 0, target.At)
	case api.KElem:
		m.put(9, target.N, target.Size, 0, target.At)
	default:
		panic("no target")
	}
}

func (m *page) stmt(n api.Node) {
	switch n.Kind {
	case api.KSet:
		m.index(n.Kids[0])
		m.expr(n.Kids[1])
		m.store(n.Kids[0])
	case api.KLet:
		m.expr(n.Kids[0])
		m.put(5, n.N, 0, 0, n.At)
	case api.KGo:
		m.exprs(n.Kids)
		m.put(22, n.Obj, 0, 0, n.At)
	case api.KCall:
		m.exprs(n.Kids)
		m.put(23, n.Obj, 0, 0, n.At)
	case api.KLock:
		m.put(15, n.Obj, 0, 0, n.At)
	case api.KUnlock:
		m.put(16, n.Obj, 0, 0, n.At)
	case api.KSend:
		m.expr(n.Kids[0])
		m.put(17, n.Obj, 0, 0, n.At)
	case api.KRecv:
		m.index(n.Kids[0])
		m.put(18, n.Obj, 0, 0, n.At)
		m.store(n.Kids[0])
	case api.KGet:
		m.index(n.Kids[0])
		m.put(19, n.Obj, 0, 0, n.At)
		m.store(n.Kids[0])
	case api.KPut:
		m.expr(n.Kids[0])
		m.put(20, n.Obj, 0, 0, n.At)
	case api.KAdd:
		m.expr(n.Kids[0])
		m.put(21, n.Obj, 0, 0, n.At)
	case api.KReturn:
		m.put(25, 0, 0, 0, n.At)
	case api.KFail:
		m.expr(n.Kids[0])
		m.put(26, 0, 0, 0, n.At)
	default:
		m.control(n)
	}
}

func (m *page) control(n api.Node) {
	no, end, again := m.new(), m.new(), m.new()
	switch {
	case n.Kind == api.KWhile:
		m.here(again)
		m.put(24, 0, 0, 0, n.At)
		m.expr(n.Kids[0])
		m.jump(13, 0, n.At, end)
		m.block(n.Kids[1])
		m.jump(12, 0, n.At, again)
	case n.Kind == api.KIf && len(n.Kids) == 2:
		m.expr(n.Kids[0])
		m.jump(13, 0, n.At, end)
		m.block(n.Kids[1])
	case n.Kind == api.KIf:
		m.expr(n.Kids[0])
		m.jump(13, 0, n.At, no)
		m.block(n.Kids[1])
		m.jump(12, 0, n.At, end)
		m.here(no)
		m.block(n.Kids[2])
	default:
		panic("no statement")
	}
	m.here(end)
}
