package comp_test

import (
	"fmt"
	"reflect"
	"regexp"
	"slices"
	"strconv"
	"strings"
	"testing"

	"stockade/api"
	"stockade/code"
	"stockade/comp"
	"stockade/kind"
)

// A marked text has marks, as "$a ", that aren't a part of it: each tells the byte behind it by a name.
type marked struct {
	src   string
	bytes map[string]int
}

func unmark(text string) marked {
	m := marked{bytes: map[string]int{}}
	for {
		at := regexp.MustCompile(`\$\w+ `).FindStringIndex(text)
		if at == nil {
			m.src += text
			return m
		}
		m.src += text[:at[0]]
		m.bytes[text[at[0]+1:at[1]-1]] = len(m.src)
		text = text[at[1]:]
	}
}

// opNames is the Ops by the table of chapter 14, the first of which is 1: the tests don't hang on how the package counts them.
var opNames = strings.Fields("Int Float Bool Local SetLocal Read Write ReadElem WriteElem Unary Binary Jump JumpIf Short Lock Unlock Send Recv Get Put Add Go Call Turn Return Fail")

// listed is the instructions of a listing, as "Read 0 b, JumpIf 4 0 a": of each one the Op's name, A and B (a Float's Bits), as far as it has them, and the mark at which it stands.
func (m marked) listed(t *testing.T, listing string) []api.Instr {
	t.Helper()
	var list []api.Instr
	for _, text := range strings.Split(listing, ", ") {
		words := strings.Fields(text)
		in := api.Instr{Op: slices.Index(opNames, words[0]) + 1}
		var fields []*int
		switch words[0] {
		case "ReadElem", "WriteElem", "JumpIf", "Short":
			fields = []*int{&in.A, &in.B}
		case "Turn", "Return", "Fail":
		case "Float":
			in.Bits, _ = strconv.ParseUint(words[1], 16, 64)
			words = slices.Delete(words, 1, 2)
		default:
			fields = []*int{&in.A}
		}
		at, known := m.bytes[words[len(words)-1]]
		if in.Op == 0 || len(words) != len(fields)+2 || !known {
			t.Fatalf("%q in %q can't be read", text, listing)
		}
		in.At = at
		for i, field := range fields {
			*field, _ = strconv.Atoi(words[i+1])
		}
		list = append(list, in)
	}
	return list
}

// told is instructions by names, each with its place in the body.
func told(list []api.Instr) string {
	var b strings.Builder
	for i, in := range list {
		name := "none"
		if in.Op >= 1 && in.Op <= len(opNames) {
			name = opNames[in.Op-1]
		}
		fmt.Fprintf(&b, "\n\t%d: %s A %d, B %d, Bits %x, At %d", i, name, in.A, in.B, in.Bits, in.At)
	}
	text := b.String()
	return text[:min(len(text), 4000)]
}

// shown is a value's beginning, since programs may be great.
func shown(v any) string {
	text := fmt.Sprintf("%+v", v)
	return text[:min(len(text), 600)]
}

// same tells whether two codes are the same: deeply, once no list of theirs is nil.
func same(a, b api.Code) bool {
	return reflect.DeepEqual(unnil(a), unnil(b))
}

func unnil(c api.Code) api.Code {
	c.Places, c.Chans, c.Body = append([]int{}, c.Places...), append([]api.Chan{}, c.Chans...), append([]api.Instr{}, c.Body...)
	c.Funcs = append([]api.Entry{}, c.Funcs...)
	for i, f := range c.Funcs {
		c.Funcs[i].Locals = append([]int{}, f.Locals...)
	}
	return c
}

func program(t *testing.T, src string) api.Program {
	t.Helper()
	p, bad := kind.Build(src)
	if bad.Err != nil {
		t.Fatalf("%s: %v", shown(src), bad)
	}
	return p
}

// checkCompile asks for the model's code of a typed program.
func checkCompile(t *testing.T, p api.Program) api.Code {
	t.Helper()
	c, err := comp.Compile(p)
	if want := modelCode(p); err != nil || !same(c, want) {
		t.Errorf("Compile(%s) = %s%s, %v, want %s%s", shown(p), shown(c.Funcs), told(c.Body), err, shown(want.Funcs), told(want.Body))
	}
	return c
}

// checkBuild asks of a text that layer 9 takes for the code that Compile makes of its program, and that it is in form (P15.2).
func checkBuild(t *testing.T, src string) api.Code {
	t.Helper()
	want := checkCompile(t, program(t, src))
	c, bad := comp.Build(src)
	if bad != (api.Bad{}) || !same(c, want) {
		t.Errorf("Build(%s) = %s, %v, want %s", shown(src), told(c.Body), bad, told(want.Body))
	}
	if err := code.Check(c); err != nil {
		t.Errorf("Build(%s) = %s: not in form", shown(src), told(c.Body))
	}
	return c
}

// A row is a marked text and its body's listing. The model is held against that, too.
type row struct {
	text, listing string
}

func checkRows(t *testing.T, rows []row) {
	t.Helper()
	for _, r := range rows {
		m := unmark(r.text)
		c, want := checkBuild(t, m.src), m.listed(t, r.listing)
		if !slices.Equal(c.Body, want) {
			t.Errorf("%s\n got%s\nwant%s", r.text, told(c.Body), told(want))
		}
	}
}
