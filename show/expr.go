package show

import (
	"strconv"
	"strings"

	"stockade/api"
)

func (p *page) expr(n api.Node) {
	switch n.Kind {
	case api.KInt:
		p.put(strconv.Itoa(n.N))
	case api.KFloat:
		p.put("#", sixteen(n.Bits))
	case api.KBool:
		p.put(strconv.FormatBool(n.N == 1))
	case api.KName:
		p.put(n.Name)
	case api.KIndex:
		p.put(n.Name)
		p.within("[", n.Kids[0], "]")
	case api.KUnary:
		p.unary(n)
	case api.KBinary:
		p.binary(n)
	}
}

// sixteen is a word's digits, as many as a float has.
func sixteen(bits uint64) string {
	digits := strconv.FormatUint(bits, 16)
	return strings.Repeat("0", 16-len(digits)) + digits
}

func (p *page) unary(n api.Node) {
	kid := n.Kids[0]
	p.put(n.Name)
	if sign(n.Name) {
		p.part(kid, hold(kid) < rankWhole)
	} else {
		p.within("(", kid, ")")
	}
}

// binary writes an operator between its kids. A row of one rank groups from the left, so the left kid of the same rank needs no brackets; but comparisons don't stand in rows.
func (p *page) binary(n api.Node) {
	own, left, right := rank(n.Name), n.Kids[0], n.Kids[1]
	p.part(left, hold(left) < own || hold(left) == own && own == rankCompare)
	p.put(" ", n.Name, " ")
	p.part(right, hold(right) <= own)
}

func (p *page) part(n api.Node, brackets bool) {
	if brackets {
		p.within("(", n, ")")
	} else {
		p.expr(n)
	}
}

func (p *page) within(open string, n api.Node, shut string) {
	p.put(open)
	p.expr(n)
	p.put(shut)
}
