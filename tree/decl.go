package tree

import "stockade/api"

func (p *parser) program() api.Node {
	n := api.Node{Kind: api.KProgram, At: p.here().At}
	for p.more() {
		n.Kids = append(n.Kids, p.decl())
	}
	return n
}

func (p *parser) decl() api.Node {
	switch p.here().Text {
	case "var":
		return p.variable()
	case "mutex":
		return p.named(api.KMutex)
	case "chan":
		return p.channel()
	case "atomic":
		return p.named(api.KAtomic)
	}
	return p.function()
}

// variable is a variable's declaration, or an array's.
func (p *parser) variable() api.Node {
	n := p.open(api.KVar)
	n.Name = p.word()
	if p.sees("[") {
		n.Kind = api.KArray
		n.N = p.bound()
	}
	n.Type = p.typed()
	p.take(";")
	return n
}

func (p *parser) channel() api.Node {
	n := p.open(api.KChan)
	n.Name = p.word()
	n.N = p.bound()
	n.Type = p.typed()
	p.take(";")
	return n
}

// bound is the number between the brackets of a declaration, which make no level.
func (p *parser) bound() int {
	p.take("[")
	n := p.takeKind(api.LInt).N
	p.take("]")
	return n
}

func (p *parser) typed() int {
	switch {
	case p.taken("int"):
		return api.TInt
	case p.taken("float"):
		return api.TFloat
	}
	p.take("bool")
	return api.TBool
}

func (p *parser) function() api.Node {
	n := api.Node{Kind: api.KFunc, At: p.here().At}
	p.take("func")
	n.Name = p.word()
	p.take("(")
	if !p.sees(")") {
		n.Kids = p.list(p.param)
	}
	p.take(")")
	n.N = len(n.Kids)
	n.Kids = append(n.Kids, p.block())
	return n
}

func (p *parser) param() api.Node {
	n := api.Node{Kind: api.KParam, At: p.here().At}
	n.Name = p.word()
	n.Type = p.typed()
	return n
}
