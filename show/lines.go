package show

import (
	"strconv"

	"stockade/api"
)

func (p *page) decl(n api.Node) {
	p.start(n, " ", n.Name)
	switch n.Kind {
	case api.KVar:
		p.put(" ", p.types[n.Type].text, ";")
	case api.KArray, api.KChan:
		p.put("[", strconv.Itoa(n.N), "] ", p.types[n.Type].text, ";")
	case api.KMutex, api.KAtomic:
		p.put(";")
	case api.KFunc:
		p.function(n)
	}
	p.put("\n")
}

// function writes what stands behind a function's name.
func (p *page) function(n api.Node) {
	p.put("(")
	p.list(n.Kids[:n.N], p.param)
	p.put(") ")
	p.body(n.Kids[n.N])
}

func (p *page) param(n api.Node) {
	p.put(n.Name, " ", p.types[n.Type].text)
}

// stmt writes a statement without its last line's end.
func (p *page) stmt(n api.Node) {
	switch n.Kind {
	case api.KIf, api.KWhile:
		p.branch(n)
		return
	case api.KSet:
		p.expr(n.Kids[0])
		p.put(" = ")
		p.expr(n.Kids[1])
	case api.KLet:
		p.put(n.Name, " := ")
		p.expr(n.Kids[0])
	case api.KCall:
		p.call(n)
	case api.KGo:
		p.start(n, " ")
		p.call(n)
	case api.KLock, api.KUnlock:
		p.start(n, " ", n.Name)
	case api.KReturn:
		p.start(n)
	case api.KFail:
		p.start(n, " ")
		p.expr(n.Kids[0])
	default: // the others do one thing with what they name
		p.start(n, " ", n.Name, ", ")
		p.expr(n.Kids[0])
	}
	p.put(";")
}

func (p *page) branch(n api.Node) {
	p.start(n, " ")
	p.expr(n.Kids[0])
	p.put(" ")
	p.body(n.Kids[1])
	if len(n.Kids) == 3 {
		p.put(" else ")
		p.body(n.Kids[2])
	}
}

func (p *page) call(n api.Node) {
	p.put(n.Name, "(")
	p.list(n.Kids, p.expr)
	p.put(")")
}
