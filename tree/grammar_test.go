package tree_test

import (
	"regexp"
	"slices"
	"strings"

	"stockade/api"
)

// The chapter's grammar, as it stands there, and a recognizer (Earley's) that goes by its rows alone: it knows of each row of tokens which ones can stand next.

const grammarText = `
program = { decl }
decl    = "var" W type ";" | "var" W "[" N "]" type ";" | "mutex" W ";" | "chan" W "[" N "]" type ";"
        | "atomic" W ";" | "func" W "(" [ W type { "," W type } ] ")" block
type    = "int" | "float" | "bool"
block   = "{" { stmt } "}"
stmt    = W ":=" expr ";" | target "=" expr ";" | W "(" [ args ] ")" ";" | "go" W "(" [ args ] ")" ";"
        | "lock" W ";" | "unlock" W ";" | "send" W "," expr ";" | "recv" W "," target ";"
        | "add" W "," expr ";" | "put" W "," expr ";" | "get" W "," target ";"
        | "if" expr block [ "else" block ] | "while" expr block | "return" ";" | "fail" expr ";"
target  = W | W "[" expr "]"
args    = expr { "," expr }
expr    = and { "||" and }
and     = cmp { "&&" cmp }
cmp     = sum [ ( "==" | "!=" | "<" | "<=" | ">" | ">=" ) sum ]
sum     = prod { ( "+" | "-" ) prod }
prod    = unary { ( "*" | "/" | "%" ) unary }
unary   = ( "-" | "!" ) unary | prim
prim    = N | F | "true" | "false" | W | W "[" expr "]" | ( "int" | "float" ) "(" expr ")" | "(" expr ")"
`

// A grammar has of each name its rows of symbols: names, or tokens' classes.
type grammar map[string][][]string

var theGrammar = readGrammar()

func readGrammar() grammar {
	g := grammar{}
	words := regexp.MustCompile(`"[^"]*"|[A-Za-z]+|[={}\[\]()|]`).FindAllString(grammarText, -1)
	for len(words) > 0 {
		name := words[0]
		g[name], words = g.alternatives(words[2:], name)
	}
	return g
}

// alternatives reads rows up to a closing bracket or the next rule; a group becomes a rule of its own.
func (g grammar) alternatives(words []string, name string) ([][]string, []string) {
	rows := [][]string{{}}
	for len(words) > 0 && !(len(words) > 1 && words[1] == "=") {
		last := &rows[len(rows)-1]
		switch w := words[0]; w {
		case "|":
			rows, words = append(rows, []string{}), words[1:]
		case "}", "]", ")":
			return rows, words[1:]
		case "{", "[", "(":
			group := name + w + string(rune('0'+len(g)))
			g[group] = nil
			var inner [][]string
			inner, words = g.alternatives(words[1:], name)
			if w == "{" {
				for i := range inner {
					inner[i] = append([]string{group}, inner[i]...)
				}
			}
			if w != "(" {
				inner = append(inner, []string{})
			}
			g[group] = inner
			*last = append(*last, group)
		default:
			*last, words = append(*last, w), words[1:]
		}
	}
	return rows, words
}

// class is the symbol that a token is in the grammar.
func class(t api.Token) string {
	switch t.Kind {
	case api.LWord:
		return "W"
	case api.LInt:
		return "N"
	case api.LFloat:
		return "F"
	}
	return `"` + t.Text + `"`
}

// A production is a name's row of symbols; all of them stand in one list, and symbols are numbers, so that charts are made fast.
type production struct {
	name    int
	symbols []int
}

var (
	symbolOf    = map[string]int{} // from 1 on
	classOf     = map[int]string{} // of symbols that are tokens' classes
	productions []production
	rowsOf      = map[int][]int{} // a name's productions
	nullable    = map[int]bool{}  // names that have an empty row
)

func init() {
	symbol := func(text string) int {
		if symbolOf[text] == 0 {
			symbolOf[text] = len(symbolOf) + 1
			if theGrammar[text] == nil {
				classOf[symbolOf[text]] = text
			}
		}
		return symbolOf[text]
	}
	for name, rows := range theGrammar {
		for _, row := range rows {
			p := production{name: symbol(name)}
			for _, text := range row {
				p.symbols = append(p.symbols, symbol(text))
			}
			rowsOf[p.name] = append(rowsOf[p.name], len(productions))
			productions = append(productions, p)
			nullable[p.name] = nullable[p.name] || len(row) == 0
		}
	}
	nullable[symbolOf["program"]] = true // it is a row that may be empty, the only name that is one by others
}

// An item is a production of which some symbols have been seen, since the token from.
type item struct {
	production, seen, from int
}

// wants is the symbol that comes next; 0, if all have been seen.
func (i item) wants() int {
	p := productions[i.production]
	if i.seen == len(p.symbols) {
		return 0
	}
	return p.symbols[i.seen]
}

func (i item) forth() item {
	i.seen++
	return i
}

// A chart has behind each token the items that are open there.
type chart [][]item

func newChart(start string) chart {
	var set []item
	for _, row := range rowsOf[symbolOf[start]] {
		set = append(set, item{production: row})
	}
	return chart{closed(nil, set)}
}

// closed is a set with all that its items ask for, and all that those which are whole bring forth.
func closed(before chart, set []item) []item {
	here := len(before)
	add := func(i item) {
		if !slices.Contains(set, i) {
			set = append(set, i)
		}
	}
	for k := 0; k < len(set); k++ {
		i := set[k]
		want := i.wants()
		if want == 0 && i.from < here { // what is whole and empty was gone over where it was asked for
			for _, o := range before[i.from] {
				if o.wants() == productions[i.production].name {
					add(o.forth())
				}
			}
		}
		for _, row := range rowsOf[want] {
			add(item{production: row, from: here})
		}
		if nullable[want] {
			add(i.forth())
		}
	}
	return set
}

// next is the chart behind one more token; false, if the token can't stand there.
func (c chart) next(class string) (chart, bool) {
	var set []item
	want := symbolOf[class]
	for _, i := range c[len(c)-1] {
		if want != 0 && i.wants() == want {
			set = append(set, i.forth())
		}
	}
	if set == nil {
		return nil, false
	}
	return append(c[:len(c):len(c)], closed(c, set)), true
}

// can is the classes of the tokens that can stand next, in order.
func (c chart) can() []string {
	var out []string
	for _, i := range c[len(c)-1] {
		if class := classOf[i.wants()]; class != "" && !slices.Contains(out, class) {
			out = append(out, class)
		}
	}
	slices.Sort(out)
	return out
}

// whole tells whether the tokens so far are what the chart began with.
func (c chart) whole(start string) bool {
	return slices.ContainsFunc(c[len(c)-1], func(i item) bool {
		return productions[i.production].name == symbolOf[start] && i.from == 0 && i.wants() == 0
	})
}

// sample is a token's text of a class.
func sample(class string) string {
	switch class {
	case "W":
		return "x"
	case "N":
		return "7"
	case "F":
		return "#3ff0000000000000"
	}
	return strings.Trim(class, `"`)
}
