package kind

import (
	"slices"

	"stockade/api"
)

// A checker goes through a good program, function by function. What has a wrong type ends the going by a panic with an api.Bad.
type checker struct {
	api.Program
	api.Func // the one that is gone through; its locals get their types on the way
	types    map[use]int
}

func check(p api.Program) (typed api.Program, bad api.Bad) {
	defer func() {
		if stop := recover(); stop != nil {
			typed, bad = api.Program{}, stop.(api.Bad)
		}
	}()
	c := &checker{Program: p, types: types()}
	p.Places, p.Chans = slices.Clone(p.Places), slices.Clone(p.Chans)
	p.Funcs = nil
	for _, f := range c.Funcs {
		p.Funcs = append(p.Funcs, c.function(f))
	}
	return p, api.Bad{}
}

func need(holds bool, at int) {
	if !holds {
		panic(api.Bad{Err: api.ErrType, At: at})
	}
}

// function is a function, typed. What types its locals have already doesn't matter, but its parameters'.
func (c *checker) function(f api.Func) api.Func {
	c.Func = f
	c.Locals = make([]int, len(f.Locals))
	copy(c.Locals, f.Locals[:f.Params])
	c.Block = c.node(f.Block)
	return c.Func
}

// node is a block, a statement or an expression, typed.
func (c *checker) node(n api.Node) api.Node {
	n.Kids = c.nodes(n.Kids, c.wanted(n))
	switch n.Kind {
	case api.KLet:
		c.let(n)
	case api.KSet:
		need(n.Kids[0].Type == n.Kids[1].Type, n.At)
	}
	n.Type = 0
	if expression(n) {
		n.Type = c.own(n)
		need(n.Type != 0, n.At)
	}
	return n
}

// nodes is a list of its own, typed from the left; the first of them have to be of the types that are wanted.
func (c *checker) nodes(list []api.Node, wanted []int) []api.Node {
	var out []api.Node
	for i, n := range list {
		n = c.node(n)
		need(i >= len(wanted) || n.Type == wanted[i], n.At)
		out = append(out, n)
	}
	return out
}

// wanted is the types that a node asks for at once behind its first kids, each.
func (c *checker) wanted(n api.Node) []int {
	switch n.Kind {
	case api.KGo, api.KCall:
		f := c.Funcs[n.Obj]
		need(len(n.Kids) == f.Params, n.At)
		return f.Locals[:f.Params]
	case api.KSend, api.KRecv:
		return []int{c.Chans[n.Obj].Type}
	case api.KAdd, api.KPut, api.KGet, api.KFail:
		return []int{api.TInt}
	case api.KIf, api.KWhile:
		return []int{api.TBool}
	}
	return nil
}

// let gives a local its type, which it may have from an earlier KLet.
func (c *checker) let(n api.Node) {
	had, now := c.Locals[n.N], n.Kids[0].Type
	need(had == 0 || had == now, n.At)
	c.Locals[n.N] = now
}

func expression(n api.Node) bool {
	switch n.Kind {
	case api.KInt, api.KFloat, api.KBool, api.KUnary, api.KBinary, api.KLocal, api.KPlace, api.KElem:
		return true
	}
	return false
}

// own is the type of an expression whose kids have theirs; 0, if there is none.
func (c *checker) own(n api.Node) int {
	switch n.Kind {
	case api.KInt:
		return api.TInt
	case api.KFloat:
		return api.TFloat
	case api.KBool:
		return api.TBool
	case api.KLocal:
		return c.Locals[n.N]
	case api.KPlace:
		return c.Places[n.N]
	case api.KElem:
		need(n.Kids[0].Type == api.TInt, n.At)
		return c.Places[n.N]
	case api.KUnary:
		return c.types[use{n.Name, n.Kids[0].Type, 0}]
	}
	return c.types[use{n.Name, n.Kids[0].Type, n.Kids[1].Type}]
}
