package scope

import "stockade/api"

// An asker asks a function of a program. Each of its rules goes over a node of its kind: what the kind has is asked, and taken from the node (a copy), so that nothing may be left of it. What couldn't be there ends the asking by a panic.
type asker struct {
	api.Program
	api.Func
}

func ask(p api.Program) (err error) {
	defer func() {
		if stop := recover(); stop != nil {
			err = stop.(error)
		}
	}()
	shared(p)
	for _, f := range p.Funcs {
		asker{p, f}.function()
	}
	return nil
}

func must(hold bool) {
	if !hold {
		panic(api.ErrCode)
	}
}

// shared asks what all functions of a program share.
func shared(p api.Program) {
	must(len(p.Places) <= api.MaxPlaces)
	types(p.Places)
	must(0 <= p.Mutexes && p.Mutexes <= api.MaxObjects)
	must(0 <= p.Atomics && p.Atomics <= api.MaxObjects) // each by itself first, so that their sum can't wrap round
	must(p.Mutexes+p.Atomics+len(p.Chans) <= api.MaxObjects)
	for _, c := range p.Chans {
		types([]int{c.Type})
		must(0 <= c.Room && c.Room <= api.MaxRoom)
	}
	must(len(p.Funcs) <= api.MaxFuncs)
	must(there(p.Main, len(p.Funcs)) && p.Funcs[p.Main].Params == 0)
}

func types(list []int) {
	for _, t := range list {
		must(t == api.TInt || t == api.TFloat || t == api.TBool)
	}
}

// there tells whether a number is one of so many.
func there(n, many int) bool {
	return 0 <= n && n < many
}

func (a asker) function() {
	must(0 <= a.Params && a.Params <= api.MaxParams)
	must(a.Params <= len(a.Locals) && len(a.Locals) <= api.MaxLocals)
	types(a.Locals[:a.Params])
	a.block(a.Block)
}

func (a asker) block(n api.Node) {
	must(n.Kind == api.KBlock)
	nothing(each(n, a.stmt))
}

func (a asker) stmt(n api.Node) {
	switch n.Kind {
	case api.KSet:
		nothing(all(n, a.target, a.expr))
	case api.KLet:
		must(n.N >= a.Params)
		nothing(all(numbered(n, len(a.Locals)), a.expr))
	case api.KGo, api.KCall:
		nothing(each(object(n, len(a.Funcs)), a.expr))
	case api.KLock, api.KUnlock:
		nothing(object(n, a.Mutexes))
	case api.KSend:
		nothing(all(object(n, len(a.Chans)), a.expr))
	case api.KRecv:
		nothing(all(object(n, len(a.Chans)), a.target))
	case api.KAdd, api.KPut:
		nothing(all(object(n, a.Atomics), a.expr))
	case api.KGet:
		nothing(all(object(n, a.Atomics), a.target))
	default:
		a.control(n)
	}
}

// control asks a statement that has to do with what is done next.
func (a asker) control(n api.Node) {
	switch {
	case n.Kind == api.KReturn:
		nothing(n)
	case n.Kind == api.KFail:
		nothing(all(n, a.expr))
	case n.Kind == api.KIf && len(n.Kids) == 3:
		nothing(all(n, a.expr, a.block, a.block))
	default:
		must(n.Kind == api.KIf || n.Kind == api.KWhile)
		nothing(all(n, a.expr, a.block))
	}
}

func (a asker) expr(n api.Node) {
	switch n.Kind {
	case api.KInt:
		must(n.N >= 0)
		n.N = 0
		nothing(n)
	case api.KFloat:
		n.Bits = 0
		nothing(n)
	case api.KBool:
		nothing(numbered(n, 2))
	case api.KUnary:
		nothing(all(n, a.expr))
	case api.KBinary:
		nothing(all(n, a.expr, a.expr))
	default:
		a.target(n)
	}
}

func (a asker) target(n api.Node) {
	switch n.Kind {
	case api.KLocal:
		nothing(numbered(n, len(a.Locals)))
	case api.KPlace:
		nothing(numbered(n, len(a.Places)))
	default:
		must(n.Kind == api.KElem)
		nothing(all(a.row(n), a.expr))
	}
}

// row is a node without its row of places, which all have to be there, of one type.
func (a asker) row(n api.Node) api.Node {
	must(1 <= n.Size && n.Size <= api.MaxElems)
	must(there(n.N, len(a.Places)-n.Size+1))
	for _, t := range a.Places[n.N : n.N+n.Size] {
		must(t == a.Places[n.N])
	}
	n.N, n.Size = 0, 0
	return n
}

// numbered is a node without its number, which has to be one of so many.
func numbered(n api.Node, many int) api.Node {
	must(there(n.N, many))
	n.N = 0
	return n
}

// object is a node without its object, which has to be one of so many.
func object(n api.Node, many int) api.Node {
	must(there(n.Obj, many))
	n.Obj = 0
	return n
}

// each is a node without its kids, all of which have to follow one rule.
func each(n api.Node, rule func(api.Node)) api.Node {
	for _, kid := range n.Kids {
		rule(kid)
	}
	n.Kids = nil
	return n
}

// all is a node without its kids, which have to follow these rules, one each.
func all(n api.Node, rules ...func(api.Node)) api.Node {
	must(len(n.Kids) == len(rules))
	for i, rule := range rules {
		rule(n.Kids[i])
	}
	n.Kids = nil
	return n
}

// nothing asks that nothing is left of a node but its kind and place, and its name and type, which may be any.
func nothing(n api.Node) {
	must(n.N == 0 && n.Size == 0 && n.Obj == 0 && n.Bits == 0 && len(n.Kids) == 0)
}
