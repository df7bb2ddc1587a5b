package show

import (
	"strings"

	"stockade/api"
)

// A page is a text while it is written. What is written on it is in form.
type page struct {
	strings.Builder
	starts map[int]keyword // of a kind of node: with what its line begins
	types  map[int]keyword
	blocks int // how many the line stands in
}

type keyword struct {
	text string
}

func newPage() *page {
	return &page{starts: starts(), types: types()}
}

func starts() map[int]keyword {
	return map[int]keyword{
		api.KVar:    {"var"},
		api.KArray:  {"var"},
		api.KMutex:  {"mutex"},
		api.KChan:   {"chan"},
		api.KAtomic: {"atomic"},
		api.KFunc:   {"func"},
		api.KGo:     {"go"},
		api.KLock:   {"lock"},
		api.KUnlock: {"unlock"},
		api.KSend:   {"send"},
		api.KRecv:   {"recv"},
		api.KAdd:    {"add"},
		api.KPut:    {"put"},
		api.KGet:    {"get"},
		api.KIf:     {"if"},
		api.KWhile:  {"while"},
		api.KReturn: {"return"},
		api.KFail:   {"fail"},
	}
}

func types() map[int]keyword {
	return map[int]keyword{
		api.TInt:   {"int"},
		api.TFloat: {"float"},
		api.TBool:  {"bool"},
	}
}

func programText(n api.Node) string {
	p := newPage()
	for _, kid := range n.Kids {
		p.decl(kid)
	}
	return p.String()
}

func exprText(n api.Node) string {
	p := newPage()
	p.expr(n)
	return p.String()
}

// put writes texts, one at once behind the other.
func (p *page) put(texts ...string) {
	for _, text := range texts {
		p.WriteString(text)
	}
}

// indent begins a line within blocks.
func (p *page) indent() {
	p.put(strings.Repeat("\t", p.blocks))
}

// start writes the keyword of a node's kind and what stands behind it.
func (p *page) start(n api.Node, texts ...string) {
	p.put(p.starts[n.Kind].text)
	p.put(texts...)
}

// list writes nodes with a comma between each two.
func (p *page) list(nodes []api.Node, write func(api.Node)) {
	for i, n := range nodes {
		if i > 0 {
			p.put(", ")
		}
		write(n)
	}
}

// body writes a block from its bracket on, up to the bracket that shuts it; the line goes on behind that.
func (p *page) body(n api.Node) {
	p.put("{\n")
	p.blocks++
	for _, kid := range n.Kids {
		p.indent()
		p.stmt(kid)
		p.put("\n")
	}
	p.blocks--
	p.indent()
	p.put("}")
}
