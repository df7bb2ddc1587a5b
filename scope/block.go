package scope

import (
	"slices"

	"stockade/api"
)

// function goes through a function that is declared.
func (r *resolver) function(n api.Node) {
	r.locals = nil
	for _, param := range n.Kids[:n.N] {
		r.local(param)
	}
	block := r.node(n.Kids[n.N])
	r.forget(0)
	f := &r.Funcs[r.names[n.Name].number]
	f.Locals, f.Block = r.locals, block
}

// local declares the next local, from here on. Its type is told of a parameter alone; a KLet has type 0.
func (r *resolver) local(n api.Node) {
	r.free(n)
	need(len(r.locals) < api.MaxLocals, api.ErrLarge, n.At)
	r.names[n.Name] = thing{what: local, number: len(r.locals)}
	r.usable = append(r.usable, n.Name)
	r.locals = append(r.locals, n.Type)
}

// forget takes from the names all locals but the first so many.
func (r *resolver) forget(keep int) {
	for _, name := range r.usable[keep:] {
		delete(r.names, name)
	}
	r.usable = r.usable[:keep]
}

// node is a block, a statement or an expression, resolved.
func (r *resolver) node(n api.Node) api.Node {
	switch n.Kind {
	case api.KBlock:
		return r.block(n)
	case api.KLet:
		return r.let(n)
	case api.KName:
		return r.name(n)
	case api.KIndex:
		return r.index(n)
	}
	return r.other(n)
}

// nodes is a list of its own, resolved from the left.
func (r *resolver) nodes(list []api.Node) []api.Node {
	var out []api.Node
	for _, n := range list {
		out = append(out, r.node(n))
	}
	return out
}

func (r *resolver) block(n api.Node) api.Node {
	before := len(r.usable)
	n.Kids = r.nodes(n.Kids)
	r.forget(before)
	return n
}

// let declares its name behind its expression, where that can't be used yet.
func (r *resolver) let(n api.Node) api.Node {
	n.Kids = r.nodes(n.Kids)
	n.N = len(r.locals)
	r.local(n)
	return n
}

func (r *resolver) name(n api.Node) api.Node {
	t := r.find(n, local, variable)
	kind := api.KPlace
	if t.what == local {
		kind = api.KLocal
	}
	return api.Node{Kind: kind, At: n.At, N: t.number}
}

func (r *resolver) index(n api.Node) api.Node {
	t := r.find(n, array)
	return api.Node{Kind: api.KElem, At: n.At, N: t.number, Size: t.size, Kids: r.nodes(n.Kids)}
}

// other is a node that declares nothing and stays what it is: if it names a thing, it gets its number.
func (r *resolver) other(n api.Node) api.Node {
	switch n.Kind {
	case api.KGo, api.KCall:
		n.Obj = r.find(n, function).number
	case api.KLock, api.KUnlock:
		n.Obj = r.find(n, mutex).number
	case api.KSend, api.KRecv:
		n.Obj = r.find(n, channel).number
	case api.KAdd, api.KPut, api.KGet:
		n.Obj = r.find(n, atomic).number
	}
	n.Kids = r.nodes(n.Kids)
	return n
}

// find is what a node's name stands for, which has to be one of these.
func (r *resolver) find(n api.Node, wanted ...int) thing {
	t := r.names[n.Name]
	need(slices.Contains(wanted, t.what), api.ErrName, n.At)
	return t
}
