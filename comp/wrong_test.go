package comp_test

import (
	"math"
	"math/rand"
	"slices"
	"strings"
	"testing"

	"stockade/api"
	"stockade/comp"
	"stockade/kind"
	"stockade/scope"
	"stockade/tree"
)

// The tests of P15.1 on wrong inputs: programs that aren't typed, and texts that layer 9 refuses.

// checkRefused asks that a program isn't typed, with nothing beside the error.
func checkRefused(t *testing.T, p api.Program) {
	t.Helper()
	if c, err := comp.Compile(p); !same(c, api.Code{}) || err != api.ErrCode {
		t.Errorf("Compile(%s) = %s, %v, want %v", shown(p), shown(c), err, api.ErrCode)
	}
}

const rich = "var x int; var a[2] float; mutex m; chan c[1] bool; atomic k; func f(p int, q bool) { if q { x = p; } else { return; } while x < 0 { a[x] = a[1] / #3ff0000000000000; } } " +
	"func main() { v := x + 1; w := v < 2 && x == 0 || true; f(v, w); go f(-v, !w); lock m; unlock m; send c, w; recv c, w; add k, 1; put k, v; get k, v; fail int(a[0]); }"

func TestNotTyped(t *testing.T) {
	p := program(t, rich)
	checkCompile(t, p)
	checkRefused(t, api.Program{})
	n, _ := tree.Parse(rich)
	resolved, _ := scope.Resolve(n)
	checkRefused(t, resolved) // no types yet
	for _, change := range []func(p *api.Program){
		func(p *api.Program) { p.Main = 0 },
		func(p *api.Program) { p.Main = -1 },
		func(p *api.Program) { p.Main = 2 },
		func(p *api.Program) { p.Funcs = nil },
		func(p *api.Program) { p.Places = p.Places[:1] },
		func(p *api.Program) { p.Places[0] = 0 },
		func(p *api.Program) { p.Places[0] = api.TFloat },
		func(p *api.Program) { p.Places = slices.Repeat([]int{1}, api.MaxPlaces+1) },
		func(p *api.Program) { p.Mutexes = 0 },
		func(p *api.Program) { p.Mutexes = -1 },
		func(p *api.Program) { p.Mutexes = math.MaxInt },
		func(p *api.Program) { p.Mutexes = api.MaxObjects },
		func(p *api.Program) { p.Atomics = 0 },
		func(p *api.Program) { p.Chans = nil },
		func(p *api.Program) { p.Chans[0].Room = api.MaxRoom + 1 },
		func(p *api.Program) { p.Chans[0].Type = api.TInt },
		func(p *api.Program) { p.Funcs[0].Params = 1 },
		func(p *api.Program) { p.Funcs[0].Locals = nil },
		func(p *api.Program) { p.Funcs[0].Locals[0] = api.TFloat },
		func(p *api.Program) { p.Funcs[1].Locals[0] = 0 },
		func(p *api.Program) { p.Funcs[1].Locals[1] = api.TInt },
		func(p *api.Program) { p.Funcs[1].Locals = append(p.Funcs[1].Locals, api.TInt) },
		func(p *api.Program) { p.Funcs[1].Block = api.Node{} },
		func(p *api.Program) { p.Funcs[1].Block.Type = api.TInt },
		func(p *api.Program) { p.Funcs = slices.Repeat(p.Funcs, 9) },
	} {
		q := apart(p)
		change(&q)
		checkRefused(t, q)
	}
	for i := range nodesOf(p) {
		for _, change := range []func(n *api.Node){
			func(n *api.Node) { n.Type++ },
			func(n *api.Node) { n.Type = -1 },
			func(n *api.Node) { n.Kind = 0 },
			func(n *api.Node) { n.Kind = api.KName },
			func(n *api.Node) { n.Kids = append(n.Kids, number(1), number(1)) },
			func(n *api.Node) { n.Obj = 77 },
			func(n *api.Node) { n.Obj = -1 },
			func(n *api.Node) { n.Size = math.MaxInt },
			func(n *api.Node) { n.N = -1 },
		} {
			q := apart(p)
			change(nodesOf(q)[i])
			checkRefused(t, q)
		}
	}
}

// TestChangedPrograms: what isn't typed by layer 9 is refused, and nothing else is, whatever it is.
func TestChangedPrograms(t *testing.T) {
	r := rand.New(rand.NewSource(154))
	took, refused := 0, 0
	for range many(6000) {
		_, p := randomProgram(t, r)
		p = apart(p)
		list := nodesOf(p)
		n := list[r.Intn(len(list))]
		switch r.Intn(8) {
		case 0:
			n.N += r.Intn(3) - 1
		case 1:
			n.Kind = r.Intn(36)
		case 2:
			n.Name = []string{"+", "-", "&&", "", "int", "q"}[r.Intn(6)]
		case 3:
			n.Obj += r.Intn(3) - 1
		case 4:
			n.Size += r.Intn(3) - 1
		case 5:
			*n = deep(*list[r.Intn(len(list))])
		case 6:
			n.Bits = r.Uint64()
		case 7:
			n.At = -r.Int()
		}
		if len(nodesOf(p)) > 8000 {
			continue
		}
		if kind.Typed(p) != nil {
			refused++
			checkRefused(t, p)
			continue
		}
		took++
		checkCompile(t, p)
	}
	if took < many(500) || refused < many(500) {
		t.Error(took, refused)
	}
}

// checkBad asks for the error of a text, at the byte of its mark "$a " (0, if it has none): that of layer 9.
func checkBad(t *testing.T, text string, err error) {
	t.Helper()
	m := unmark(text)
	want := api.Bad{Err: err, At: m.bytes["a"]}
	if c, bad := comp.Build(m.src); !same(c, api.Code{}) || bad != want {
		t.Errorf("Build(%s) = %s, %v, want %v", shown(text), shown(c), bad, want)
	}
	if _, bad := kind.Build(m.src); bad != want {
		t.Errorf("layer 9 of %s: %v, want %v", shown(text), bad, want)
	}
}

func TestBadTexts(t *testing.T) {
	checkBad(t, "", api.ErrNone)
	checkBad(t, "var x int;", api.ErrNone)
	checkBad(t, "func f() { }", api.ErrNone)
	checkBad(t, "func main(p int) { }", api.ErrNone)
	checkBad(t, "var$a ", api.ErrText)
	checkBad(t, "func main() { $a ? }", api.ErrText)
	checkBad(t, "func main() { x := 0$a 1; }", api.ErrText)
	checkBad(t, "func main() { x := $a #12; }", api.ErrText)
	checkBad(t, "func main() { $a + }", api.ErrText)
	checkBad(t, "func main() { $a \x00 }", api.ErrText)
	checkBad(t, "func main() { $a \xff\xfe }", api.ErrText)
	checkBad(t, "func main() { x := $a 9223372036854775808; }", api.ErrRange)
	checkBad(t, "$a var a[0] int; func main() { }", api.ErrRange)
	checkBad(t, "$a var a[65] int; func main() { }", api.ErrRange)
	checkBad(t, "$a chan c[9] int; func main() { }", api.ErrRange)
	checkBad(t, "var a[64] int; var b[64] int; $a var c int; func main() { }", api.ErrLarge)
	checkBad(t, "func main() { $a x = 1; }", api.ErrName)
	checkBad(t, "var x int; $a mutex x; func main() { }", api.ErrName)
	checkBad(t, "func main() { $a f(); }", api.ErrName)
	checkBad(t, "var x int; func main() { $a x = true; }", api.ErrType)
	checkBad(t, "var x int; func main() { x = $a 1 + true; }", api.ErrType)
	checkBad(t, "func main() { if $a 1 { } }", api.ErrType)
	checkBad(t, "func main() { x := $a 1 && true; }", api.ErrType)
	checkBad(t, "func f(p int) { } func main() { $a f(); }", api.ErrType)
	checkBad(t, "func main() { x := "+strings.Repeat("(", 15)+"$a (1"+strings.Repeat(")", 16)+"; }", api.ErrDepth)
	checkBad(t, "func main() { "+strings.Repeat("if true { ", 15)+"if true $a { ", api.ErrDepth)
}

// TestLargeTexts: of a text that is too long, or has too many tokens, there is no program, and so no code; fewer tokens can't give more than MaxCode instructions, since no token gives more than one.
func TestLargeTexts(t *testing.T) {
	checkBad(t, strings.Repeat(" ", api.MaxText-12)+"func main(){}", api.ErrLarge)
	checkBad(t, strings.Repeat(" ", api.MaxText+1), api.ErrLarge)
	checkBad(t, "func main(){"+strings.Repeat("while true{}", (api.MaxTokens-8)/4)+"return;;$a }", api.ErrLarge)
	checkBad(t, "func main(){"+strings.Repeat("while true{}", (api.MaxTokens-8)/4)+"return;return$a ;}", api.ErrLarge)
	checkBuild(t, strings.Repeat(" ", api.MaxText-13)+"func main(){}")
}
