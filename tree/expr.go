package tree

import "stockade/api"

func (p *parser) expr() api.Node {
	return p.row(p.and, "||")
}

func (p *parser) and() api.Node {
	return p.row(p.cmp, "&&")
}

// cmp has at most one operator: comparisons don't stand in a row.
func (p *parser) cmp() api.Node {
	n := p.sum()
	if p.sees("==", "!=", "<", "<=", ">", ">=") {
		return p.binary(n, p.sum)
	}
	return n
}

func (p *parser) sum() api.Node {
	return p.row(p.prod, "+", "-")
}

func (p *parser) prod() api.Node {
	return p.row(p.unary, "*", "/", "%")
}

// row is what stands by a rule, once or more, with one of these operators between each two; it groups from the left.
func (p *parser) row(rule func() api.Node, operators ...string) api.Node {
	n := rule()
	for p.sees(operators...) {
		n = p.binary(n, rule)
	}
	return n
}

// binary is the operator here between what stands ahead of it and what stands by a rule behind it.
func (p *parser) binary(left api.Node, rule func() api.Node) api.Node {
	n := api.Node{Kind: api.KBinary, At: left.At, Name: p.here().Text}
	p.next++
	n.Kids = []api.Node{left, rule()}
	return n
}

func (p *parser) unary() api.Node {
	if !p.sees("-", "!") {
		return p.prim()
	}
	n := api.Node{Kind: api.KUnary, At: p.here().At, Name: p.here().Text}
	p.begin(n.Name)
	n.Kids = p.all(p.unary)
	p.end()
	return n
}

func (p *parser) prim() api.Node {
	switch p.here().Kind {
	case api.LInt:
		return p.number(api.KInt)
	case api.LFloat:
		return p.number(api.KFloat)
	case api.LWord:
		return p.target()
	}
	switch p.here().Text {
	case "true":
		return p.truth(1)
	case "false":
		return p.truth(0)
	case "int", "float":
		return p.converted()
	}
	return p.within("(", p.one, ")")[0]
}

// one is an expression as a list, since what stands within brackets is one.
func (p *parser) one() []api.Node {
	return p.all(p.expr)
}

func (p *parser) number(kind int) api.Node {
	t := p.here()
	n := p.open(kind)
	n.N, n.Bits = t.N, t.Bits
	return n
}

func (p *parser) truth(bit int) api.Node {
	n := p.open(api.KBool)
	n.N = bit
	return n
}

// converted is int or float, as an operator, and its operand.
func (p *parser) converted() api.Node {
	n := api.Node{Kind: api.KUnary, At: p.here().At, Name: p.here().Text}
	p.next++
	n.Kids = p.within("(", p.one, ")")
	return n
}
