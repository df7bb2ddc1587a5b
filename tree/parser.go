package tree

import (
	"slices"

	"stockade/api"
	"stockade/token"
)

// A parser goes over a text's tokens from the left; each rule of the grammar is a method. What can't stand there ends the reading by a panic with an api.Bad.
type parser struct {
	tokens []api.Token // an end (Kind 0) is the last one, so that there is always a token here
	next   int
	levels int
}

// read is a text's tree by the rule that it has to follow whole.
func read(src string, rule func(*parser) api.Node) (tree api.Node, bad api.Bad) {
	tokens, bad := token.Tokens(src)
	if bad.Err != nil {
		return api.Node{}, bad
	}
	defer func() {
		if stop := recover(); stop != nil {
			tree, bad = api.Node{}, stop.(api.Bad)
		}
	}()
	p := &parser{tokens: append(tokens, api.Token{At: len(src)})}
	tree = rule(p)
	if p.more() {
		p.refuse(api.ErrText)
	}
	return tree, api.Bad{}
}

// refuse ends the reading at the token that is here.
func (p *parser) refuse(err error) {
	panic(api.Bad{Err: err, At: p.here().At})
}

func (p *parser) here() api.Token {
	return p.tokens[p.next]
}

func (p *parser) more() bool {
	return p.here().Kind != 0
}

// sees tells whether the token here is one of these texts. Texts are enough: no word is a keyword, and no number is a mark.
func (p *parser) sees(texts ...string) bool {
	return slices.Contains(texts, p.here().Text)
}

// take goes over tokens of these texts, one behind the other.
func (p *parser) take(texts ...string) {
	for _, text := range texts {
		if !p.sees(text) {
			p.refuse(api.ErrText)
		}
		p.next++
	}
}

// taken tells whether the token here is that text, and if so goes over it.
func (p *parser) taken(text string) bool {
	if !p.sees(text) {
		return false
	}
	p.next++
	return true
}

// takeKind goes over a token of a kind.
func (p *parser) takeKind(kind int) api.Token {
	t := p.here()
	if t.Kind != kind {
		p.refuse(api.ErrText)
	}
	p.next++
	return t
}

func (p *parser) word() string {
	return p.takeKind(api.LWord).Text
}

// begin goes over a token that begins a level. That it can stand there is asked first.
func (p *parser) begin(text string) {
	if p.sees(text) && p.levels == api.MaxDepth {
		p.refuse(api.ErrDepth)
	}
	p.take(text)
	p.levels++
}

// end is the end of the level that was begun last.
func (p *parser) end() {
	p.levels--
}

// within is what stands by a rule between two brackets that make a level.
func (p *parser) within(open string, rule func() []api.Node, shut string) []api.Node {
	p.begin(open)
	nodes := rule()
	p.take(shut)
	p.end()
	return nodes
}

// list is what stands by a rule, once or more, with a comma between each two.
func (p *parser) list(rule func() api.Node) []api.Node {
	nodes := []api.Node{rule()}
	for p.taken(",") {
		nodes = append(nodes, rule())
	}
	return nodes
}

// all is what stands by each of these rules, one behind the other.
func (p *parser) all(rules ...func() api.Node) []api.Node {
	var nodes []api.Node
	for _, rule := range rules {
		nodes = append(nodes, rule())
	}
	return nodes
}

// open is a node that begins with the token here, which it goes over.
func (p *parser) open(kind int) api.Node {
	n := api.Node{Kind: kind, At: p.here().At}
	p.next++
	return n
}

// named is a keyword, the name of what it is about, and what stands by each rule behind a comma.
func (p *parser) named(kind int, rules ...func() api.Node) api.Node {
	n := p.open(kind)
	n.Name = p.word()
	for _, rule := range rules {
		p.take(",")
		n.Kids = append(n.Kids, rule())
	}
	p.take(";")
	return n
}
