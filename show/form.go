package show

import (
	"stockade/api"
	"stockade/token"
)

// Each rule goes over a node of its kind: what the kind has is asked, and taken from the node (a copy), so that nothing may be left of it. What isn't in form ends the asking by a panic.

// follows asks whether a tree is in form by a rule.
func follows(n api.Node, rule func(api.Node)) (err error) {
	defer func() {
		if stop := recover(); stop != nil {
			err = stop.(error)
		}
	}()
	rule(n)
	return nil
}

func need(holds bool) {
	if !holds {
		panic(api.ErrCode)
	}
}

func program(n api.Node) {
	need(n.Kind == api.KProgram)
	nothing(each(n, decl))
}

func decl(n api.Node) {
	switch n.Kind {
	case api.KVar:
		nothing(typed(named(n)))
	case api.KArray, api.KChan:
		nothing(counted(typed(named(n))))
	case api.KMutex, api.KAtomic:
		nothing(named(n))
	default:
		function(n)
	}
}

func function(n api.Node) {
	params := len(n.Kids) - 1
	need(n.Kind == api.KFunc && params >= 0 && n.N == params)
	block(n.Kids[params])
	n.N, n.Kids = 0, n.Kids[:params]
	nothing(each(named(n), param))
}

func param(n api.Node) {
	need(n.Kind == api.KParam)
	nothing(typed(named(n)))
}

func block(n api.Node) {
	need(n.Kind == api.KBlock)
	nothing(each(n, stmt))
}

func stmt(n api.Node) {
	switch n.Kind {
	case api.KSet:
		nothing(all(n, target, expr))
	case api.KLet, api.KSend, api.KAdd, api.KPut:
		nothing(all(named(n), expr))
	case api.KRecv, api.KGet:
		nothing(all(named(n), target))
	case api.KGo, api.KCall:
		nothing(each(named(n), expr))
	case api.KLock, api.KUnlock:
		nothing(named(n))
	case api.KReturn:
		nothing(n)
	case api.KFail:
		nothing(all(n, expr))
	default:
		branch(n)
	}
}

func branch(n api.Node) {
	need(n.Kind == api.KIf || n.Kind == api.KWhile)
	if n.Kind == api.KIf && len(n.Kids) == 3 {
		nothing(all(n, expr, block, block))
	} else {
		nothing(all(n, expr, block))
	}
}

func expr(n api.Node) {
	switch n.Kind {
	case api.KInt:
		nothing(counted(n))
	case api.KFloat:
		n.Bits = 0
		nothing(n)
	case api.KBool:
		need(n.N <= 1)
		nothing(counted(n))
	case api.KUnary:
		nothing(all(unnamed(n, prefix(n.Name)), expr))
	case api.KBinary:
		nothing(all(unnamed(n, rank(n.Name) > 0), expr, expr))
	default:
		target(n)
	}
}

func target(n api.Node) {
	need(n.Kind == api.KName || n.Kind == api.KIndex)
	if n.Kind == api.KName {
		nothing(named(n))
	} else {
		nothing(all(named(n), expr))
	}
}

// named is a node without its name, which has to be a word.
func named(n api.Node) api.Node {
	return unnamed(n, word(n.Name))
}

// unnamed is a node without its name, if that can stand there.
func unnamed(n api.Node, stands bool) api.Node {
	need(stands)
	n.Name = ""
	return n
}

// word tells whether a name is read back as that name: layer 5 knows which are keywords, and how long one may be.
func word(name string) bool {
	tokens, bad := token.Tokens(name)
	return bad.Err == nil && len(tokens) == 1 && tokens[0].Kind == api.LWord && tokens[0].Text == name
}

func typed(n api.Node) api.Node {
	need(n.Type == api.TInt || n.Type == api.TFloat || n.Type == api.TBool)
	n.Type = 0
	return n
}

// counted is a node without its number, which no text could tell if it were below 0.
func counted(n api.Node) api.Node {
	need(n.N >= 0)
	n.N = 0
	return n
}

// each is a node without its kids, all of which have to follow one rule.
func each(n api.Node, rule func(api.Node)) api.Node {
	for _, kid := range n.Kids {
		rule(kid)
	}
	n.Kids = nil
	return n
}

// all is a node without its kids, which have to follow these rules, one each.
func all(n api.Node, rules ...func(api.Node)) api.Node {
	need(len(n.Kids) == len(rules))
	for i, rule := range rules {
		rule(n.Kids[i])
	}
	n.Kids = nil
	return n
}

// nothing asks that nothing is left of a node but its kind and place.
func nothing(n api.Node) {
	need(n.Name == "" && n.Type == 0 && n.N == 0 && n.Size == 0 && n.Obj == 0 && n.Bits == 0 && len(n.Kids) == 0)
}
