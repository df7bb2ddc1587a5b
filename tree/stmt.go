package tree

import "stockade/api"

func (p *parser) block() api.Node {
	n := api.Node{Kind: api.KBlock, At: p.here().At}
	n.Kids = p.within("{", p.stmts, "}")
	return n
}

func (p *parser) stmts() []api.Node {
	var nodes []api.Node
	for !p.sees("}") {
		nodes = append(nodes, p.stmt())
	}
	return nodes
}

func (p *parser) stmt() api.Node {
	switch p.here().Text {
	case "go":
		return p.goes()
	case "lock":
		return p.named(api.KLock)
	case "unlock":
		return p.named(api.KUnlock)
	case "send":
		return p.named(api.KSend, p.expr)
	case "recv":
		return p.named(api.KRecv, p.target)
	case "add":
		return p.named(api.KAdd, p.expr)
	case "put":
		return p.named(api.KPut, p.expr)
	case "get":
		return p.named(api.KGet, p.target)
	case "if":
		return p.branch()
	case "while":
		return p.loop()
	case "return":
		return p.leaves(api.KReturn)
	case "fail":
		return p.leaves(api.KFail, p.expr)
	}
	return p.wordFirst()
}

// leaves is a keyword that ends what runs, and what stands by the rules behind it.
func (p *parser) leaves(kind int, rules ...func() api.Node) api.Node {
	n := p.open(kind)
	n.Kids = p.all(rules...)
	p.take(";")
	return n
}

func (p *parser) goes() api.Node {
	n := p.open(api.KGo)
	n.Name = p.word()
	return p.called(n)
}

// called gives a call its arguments, and goes over its end.
func (p *parser) called(n api.Node) api.Node {
	n.Kids = p.within("(", p.args, ")")
	p.take(";")
	return n
}

func (p *parser) args() []api.Node {
	if p.sees(")") {
		return nil
	}
	return p.list(p.expr)
}

func (p *parser) branch() api.Node {
	n := p.open(api.KIf)
	n.Kids = p.all(p.expr, p.block)
	if p.taken("else") {
		n.Kids = append(n.Kids, p.block())
	}
	return n
}

func (p *parser) loop() api.Node {
	n := p.open(api.KWhile)
	n.Kids = p.all(p.expr, p.block)
	return n
}

// wordFirst is a statement that begins with a word: which one it is, is told by what stands behind that.
func (p *parser) wordFirst() api.Node {
	first := p.target()
	n := api.Node{At: first.At}
	switch {
	case first.Kind == api.KName && p.sees("("):
		n.Kind, n.Name = api.KCall, first.Name
		return p.called(n)
	case first.Kind == api.KName && p.taken(":="):
		n.Kind, n.Name = api.KLet, first.Name
		n.Kids = p.all(p.expr)
	default:
		p.take("=")
		n.Kind = api.KSet
		n.Kids = []api.Node{first, p.expr()}
	}
	p.take(";")
	return n
}

func (p *parser) target() api.Node {
	n := api.Node{Kind: api.KName, At: p.here().At}
	n.Name = p.word()
	if p.sees("[") {
		n.Kind = api.KIndex
		n.Kids = p.within("[", p.one, "]")
	}
	return n
}
