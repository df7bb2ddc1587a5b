package comp_test

import (
	"fmt"
	"strings"
	"testing"

	"stockade/api"
	"stockade/token"
)

// The tests of P15.1 and P15.2 on whole codes: all that a code has beside its body, written out, and texts at the limits.

// TestWholeCode: all fields of a code of a program that has some of everything.
func TestWholeCode(t *testing.T) {
	m := unmark("var x int; mutex m; chan c[3] float; func w(p bool, q float) $f { $a u := $b q; $c lock n; } var a[2] bool; atomic k; chan d[0] bool; mutex n; " +
		"func v(r int) $g { } func main() $e { $d y := $h 1; $i z := $j y == $k x; $l a[$m y] = $n z; $o go w($p z, $q g); } func z2() $r { $s s := $t true; } var g float; atomic l; mutex o;")
	want := api.Code{
		Places:  []int{api.TInt, api.TBool, api.TBool, api.TFloat},
		Mutexes: 3,
		Atomics: 2,
		Chans:   []api.Chan{{Type: api.TFloat, Room: 3}, {Type: api.TBool, Room: 0}},
		Funcs: []api.Entry{
			{Start: 0, Params: 2, Locals: []int{api.TBool, api.TFloat, api.TFloat}},
			{Start: 4, Params: 1, Locals: []int{api.TInt}},
			{Start: 5, Locals: []int{api.TInt, api.TBool}},
			{Start: 18, Locals: []int{api.TBool}},
		},
		Main: 2,
		Body: m.listed(t, "Local 1 b, SetLocal 2 a, Lock 1 c, Return f, "+
			"Return g, "+
			"Int 1 h, SetLocal 0 d, Local 0 j, Read 0 k, Binary 6 j, SetLocal 1 i, Local 0 m, Local 1 n, WriteElem 1 2 l, Local 1 p, Read 3 q, Go 0 o, Return e, "+
			"Bool 1 t, SetLocal 0 s, Return r"),
	}
	if c := checkBuild(t, m.src); !same(c, want) {
		t.Errorf("Build = %+v, want %+v", c, want)
	}
}

func TestSmallCodes(t *testing.T) {
	for _, x := range []struct {
		src  string
		want api.Code
	}{
		{"func main(){}", api.Code{Funcs: []api.Entry{{}}, Body: []api.Instr{{Op: 25, At: 11}}}},
		{"func a(){}func main(){}", api.Code{Funcs: []api.Entry{{}, {Start: 1}}, Main: 1, Body: []api.Instr{{Op: 25, At: 8}, {Op: 25, At: 21}}}},
		{"func main(){}func a(){}", api.Code{Funcs: []api.Entry{{}, {Start: 1}}, Main: 0, Body: []api.Instr{{Op: 25, At: 11}, {Op: 25, At: 21}}}},
		{"mutex m;func main(){}", api.Code{Mutexes: 1, Funcs: []api.Entry{{}}, Body: []api.Instr{{Op: 25, At: 19}}}},
		{"atomic m;func main(){}", api.Code{Atomics: 1, Funcs: []api.Entry{{}}, Body: []api.Instr{{Op: 25, At: 20}}}},
		{"chan c[8] int;func main(){}", api.Code{Chans: []api.Chan{{Type: 1, Room: 8}}, Funcs: []api.Entry{{}}, Body: []api.Instr{{Op: 25, At: 25}}}},
		{"var c[3] float;func main(){}", api.Code{Places: []int{2, 2, 2}, Funcs: []api.Entry{{}}, Body: []api.Instr{{Op: 25, At: 26}}}},
	} {
		if c := checkBuild(t, x.src); !same(c, x.want) {
			t.Errorf("Build(%q) = %+v, want %+v", x.src, c, x.want)
		}
	}
}

// greatText has as much of each limited thing as there may be: places, objects, functions, parameters, locals, elements, levels and bytes.
func greatText() string {
	var b strings.Builder
	b.WriteString("var a[64] int; var b[64] bool; ")
	for i := range 10 {
		fmt.Fprintf(&b, "mutex m%d; atomic k%d; chan c%d[8] float; ", i, i, i)
	}
	for i := range api.MaxFuncs - 1 {
		fmt.Fprintf(&b, "func f%d(p int, q float, r bool, s int) { ", i)
		if i == 0 || i == api.MaxFuncs-2 {
			for j := range 28 {
				fmt.Fprintf(&b, "v%d := a[63]; ", j)
			}
			b.WriteString(strings.Repeat("if r { ", 13) + "go f14(p, q, b[63], v27); lock m9; add k9, a[s]; send c9, q; recv c9, q; " + strings.Repeat("} ", 13))
		}
		b.WriteString("} ")
	}
	b.WriteString(strings.Repeat(" ", api.MaxText-len("func main() {}")-b.Len()))
	b.WriteString("func main() {}")
	return b.String()
}

// TestTextsAtLimits: their codes are in form, as are those of all texts (P15.2).
func TestTextsAtLimits(t *testing.T) {
	src := greatText()
	c := checkBuild(t, src)
	if len(src) != api.MaxText || len(c.Places) != api.MaxPlaces || len(c.Funcs) != api.MaxFuncs || len(c.Funcs[0].Locals) != api.MaxLocals || c.Body[len(c.Body)-1].At != api.MaxText-2 {
		t.Error(len(src), len(c.Places), len(c.Funcs), len(c.Funcs[0].Locals), c.Body[len(c.Body)-1])
	}
}

// TestMostInstructions: a text whose tokens are as many as there may be, with as many instructions as these give.
func TestMostInstructions(t *testing.T) {
	src := "func main(){" + strings.Repeat("while true{}", (api.MaxTokens-8)/4) + "return;}"
	tokens, bad := token.Tokens(src)
	if bad.Err != nil || len(tokens) != api.MaxTokens {
		t.Fatal(len(tokens), bad)
	}
	if c := checkBuild(t, src); len(c.Body) != (api.MaxTokens-8)+2 {
		t.Error(len(c.Body))
	}
}
