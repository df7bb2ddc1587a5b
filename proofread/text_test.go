package proofread_test

import (
	"fmt"
	"math/rand"
	"slices"
	"strings"
	"testing"

	"stockade/api"
	"stockade/comp"
	"stockade/proofread"
	"stockade/token"
)

// The tests of P16.2: the codes of texts are right.

// checkText asks that a text's code is right, with the model's stacks.
func checkText(t *testing.T, src string) api.Code {
	t.Helper()
	c, bad := comp.Build(src)
	if bad.Err != nil {
		t.Fatalf("%s: %v", src[:min(len(src), 2000)], bad)
	}
	if !checkModel(t, c) {
		t.Errorf("the code of %s isn't right: %s", src[:min(len(src), 2000)], told(c))
	}
	return c
}

// TestStacksOfTexts: the stacks of texts' codes, written out.
func TestStacksOfTexts(t *testing.T) {
	for _, x := range []struct{ src, stacks string }{
		{"func main() { }", "."},
		{"var x int; func main() { x = x + 1; }", ". i ii i ."},
		{"var x int; func main() { x = 1 + 2 * x; if x == 1 && true { x = 2; } }", ". i ii iii ii i . i ii b . b . i ."},
		{"var b bool; func main() { while b { } }", ". . b . ."},
		{"var a[3] float; func main() { a[1] = -a[int(a[0])]; }", ". i ii if ii if if ."},
		{"func f(p int, q bool, r float) { } func main() { f(1 * 2, 1 < 2 || true, #3ff0000000000000); }", ". . i ii i ii iii ib i ib ibf ."},
		{"chan c[1] bool; var a[2] bool; func main() { send c, !true; recv c, a[1]; }", ". b b . i ib ."},
		{"atomic k; func main() { v := 1; get k, v; add k, v; put k, v % 2; fail v; }", ". i . i . i . i ii i . i ."},
		{"func main() { if true { return; } else { fail 1; } while true { return; } }", ". b . . . i . . . . . ."}, // behind the if nothing comes
		{"func main() { if true { return; } else { go main(); } while true { return; } }", ". b . . . . . b . . ."},
		{"mutex m; func main() { lock m; go main(); unlock m; }", ". . . ."},
	} {
		want := strings.Split(strings.ReplaceAll(x.stacks, ".", ""), " ")
		c, bad := comp.Build(x.src)
		if bad.Err != nil {
			t.Fatalf("%s: %v", x.src, bad)
		}
		checkRight(t, c, want)
	}
}

// TestDeepestTexts: the longest stack that a text makes: arguments beside one another, and in the last one operators of each rank within brackets.
func TestDeepestTexts(t *testing.T) {
	const brackets = api.MaxDepth - 2 // a block and the arguments are levels, too
	src := "func f(p int, q int, r int, s bool) { } func main() { f(1, 1, 1, 1 < 1 + 1 * " +
		strings.Repeat("(1 + 1 * ", brackets) + "1" + strings.Repeat(")", brackets) + "); }"
	c := checkText(t, src)
	if n, err := proofread.Deep(c); n != 3+3+2*brackets+1 || err != nil {
		t.Error(n, err)
	}
	if _, bad := comp.Build(strings.Replace(src, "1)", "(1))", 1)); bad.Err != api.ErrDepth {
		t.Error(bad)
	}
}

// TestNestedTexts: expressions and statements of each kind in one another, as far as may be.
func TestNestedTexts(t *testing.T) {
	for _, x := range []struct {
		before, open, inner, close, after string
		levels                            int // of one
	}{
		{"x = ", "(x + ", "1", ")", ";", 1}, {"x = ", "(", "1", " - x)", ";", 1}, {"x = ", "x * (1 + ", "x", ")", ";", 1},
		{"x = ", "-", "1", "", ";", 1}, {"b = ", "!", "b", "", ";", 1}, {"x = ", "a[", "1", "]", ";", 1}, {"a[x] = ", "1 + a[", "1", "]", ";", 1},
		{"x = ", "int(float(", "x", "))", ";", 2}, {"b = ", "(true == ", "b", ")", ";", 1}, {"b = ", "(", "b", " != true)", ";", 1},
		{"b = ", "(b && ", "b", ")", ";", 1}, {"b = ", "(", "b", " || true)", ";", 1}, {"b = ", "(b && true || ", "b", ")", ";", 1}, {"b = ", "(b || b && b && ", "b", ")", ";", 1},
		{"", "while b { ", "", "}", "", 1}, {"", "while b { return; ", "x = 1;", "}", "", 1}, {"", "while b && x == 1 { ", "", "} x = 2;", "", 1},
		{"", "if b { ", "", "}", "", 1}, {"", "if b { return; } else { ", "fail 1;", "}", "", 1}, {"", "if b { x = 1; ", "return;", "} else { fail x; }", "", 1},
		{"", "if b { while b { ", "x = x + 1;", "} } else { return; }", "", 2},
		{"if ", "(b || ", "b", ")", " { } else { }", 1}, {"while ", "!", "b", "", " { return; }", 1}, {"fail ", "-", "1", "", ";", 1},
		{"send c, ", "(x + ", "x", ")", ";", 1}, {"recv c, ", "a[", "x", "]", ";", 1}, {"get k, ", "a[", "x", "]", ";", 1}, {"add k, ", "a[", "x", "]", ";", 1}, {"v := ", "(b && ", "b", ")", ";", 1},
	} {
		for n := range (api.MaxDepth-1)/x.levels + 1 {
			checkText(t, "var x int; var b bool; var a[2] int; chan c[1] int; atomic k; func main() { "+
				x.before+strings.Repeat(x.open, n)+x.inner+strings.Repeat(x.close, n)+x.after+" }")
		}
	}
}

// greatText has as much of each limited thing as there may be: places, objects, functions, parameters, locals, elements and levels.
func greatText() string {
	var b strings.Builder
	b.WriteString("var a[64] int; var b[64] bool; ")
	for i := range 10 {
		fmt.Fprintf(&b, "mutex m%d; atomic k%d; chan c%d[8] float; ", i, i, i)
	}
	for i := range api.MaxFuncs - 1 {
		fmt.Fprintf(&b, "func f%d(p int, q float, r bool, s int) { ", i)
		if i == 0 || i == api.MaxFuncs-2 {
			for j := range 28 {
				fmt.Fprintf(&b, "v%d := a[63]; ", j)
			}
			b.WriteString(strings.Repeat("if r { ", 13) + "go f14(p, q, b[63], v27); lock m9; add k9, a[s]; send c9, q; recv c9, q; " + strings.Repeat("} ", 13))
		}
		b.WriteString("} ")
	}
	b.WriteString("func main() { }")
	return b.String()
}

// TestTextsAtLimits: a text that has much of everything, and texts of as many tokens as there may be.
func TestTextsAtLimits(t *testing.T) {
	checkText(t, greatText())
	for _, x := range []struct{ part, end string }{
		{"while b{}", "return;b=b;"}, {"return;", ""}, {"if b{}", "return;b=b;"}, {"b=b&&b;", "return;"}, {"x=x+x;", "return;"}, {"if b{}else{}", ""},
	} {
		src := "var b bool;var x int;func main(){" + x.end
		for {
			next := strings.Replace(src, "{", "{"+x.part, 1)
			if list, bad := token.Tokens(next + "}"); bad.Err != nil || len(list) > api.MaxTokens {
				break
			}
			src = next
		}
		if list, _ := token.Tokens(src + "}"); len(list) < api.MaxTokens-8 {
			t.Error(len(list))
		}
		checkText(t, src+"}")
	}
}

// A texter writes random texts of typed programs, in which there are variables xi, xf, xb, arrays ai, af, ab, channels ci, cf, cb, a mutex m and an atomic k.
type texter struct {
	*rand.Rand
	strings.Builder
	params []string // of each function the letters of its parameters
	locals []string // those that can be used, their types' letters ahead: i3, f0 ..
	made   int      // how many the function has
}

func (w *texter) say(format string, args ...any) {
	fmt.Fprintf(w, format, args...)
}

func (w *texter) one(list ...string) string {
	return list[w.Intn(len(list))]
}

func (w *texter) letter() string {
	return w.one("i", "f", "b")
}

func randomText(r *rand.Rand) string {
	w := &texter{Rand: r}
	w.say("var xi int; var xf float; var xb bool; mutex m; atomic k; ")
	w.say("var ai[%d] int; var af[%d] float; var ab[%d] bool; chan ci[%d] int; chan cf[0] float; chan cb[8] bool; ", 1+r.Intn(64), 1+r.Intn(3), 1+r.Intn(3), r.Intn(9))
	w.params = []string{""}
	for range r.Intn(4) {
		params := ""
		for range r.Intn(5) {
			params += w.letter()
		}
		w.params = append(w.params, params)
	}
	for i, params := range w.params {
		w.function(i, params)
	}
	return w.String()
}

func (w *texter) function(i int, params string) {
	w.locals, w.made = nil, 0
	var list []string
	for _, letter := range params {
		list = append(list, w.local(string(letter))+" "+map[rune]string{'i': "int", 'f': "float", 'b': "bool"}[letter])
	}
	if i == 0 {
		w.say("func main() ")
	} else {
		w.say("func g%d(%s) ", i, strings.Join(list, ", "))
	}
	w.block(3)
}

// local declares one.
func (w *texter) local(letter string) string {
	name := fmt.Sprint(letter, w.made)
	w.made++
	w.locals = append(w.locals, name)
	return name
}

func (w *texter) block(deep int) {
	usable := len(w.locals)
	w.say("{ ")
	for range w.Intn(5) {
		w.stmt(deep)
	}
	w.say("} ")
	w.locals = w.locals[:usable]
}

func (w *texter) stmt(deep int) {
	letter := w.letter()
	switch n := w.Intn(16); {
	case n < 2 && w.made < api.MaxLocals:
		e := w.expr(letter, 3)
		w.say("%s := %s; ", w.local(letter), e)
	case n < 4:
		w.say("%s = %s; ", w.target(letter), w.expr(letter, 3))
	case n < 6:
		w.call()
	case n == 6:
		w.say("%s m; ", w.one("lock", "unlock"))
	case n == 7:
		w.say("send c%s, %s; ", letter, w.expr(letter, 3))
	case n == 8:
		w.say("recv c%s, %s; ", letter, w.target(letter))
	case n == 9:
		w.say("%s k, %s; ", w.one("add", "put"), w.expr("i", 3))
	case n == 10:
		w.say("get k, %s; ", w.target("i"))
	case n == 11 && w.Intn(3) > 0:
		w.say("%s; ", w.one("return", "fail "+w.expr("i", 3)))
	case n > 11 && deep > 0:
		w.control(deep - 1)
	default:
		w.say("xb = %s; ", w.expr("b", 3))
	}
}

func (w *texter) control(deep int) {
	word := w.one("while", "if")
	w.say("%s %s ", word, w.expr("b", 3))
	w.block(deep)
	if word == "if" && w.Intn(2) == 0 {
		w.say("else ")
		w.block(deep)
	}
}

func (w *texter) call() {
	i := w.Intn(len(w.params))
	var args []string
	for _, letter := range w.params[i] {
		args = append(args, w.expr(string(letter), 3))
	}
	name := fmt.Sprint("g", i)
	if i == 0 {
		name = "main"
	}
	w.say("%s%s(%s); ", w.one("", "go "), name, strings.Join(args, ", "))
}

func (w *texter) target(letter string) string {
	if w.Intn(2) == 0 {
		return fmt.Sprintf("a%s[%s]", letter, w.expr("i", 2))
	}
	return w.name(letter)
}

// name is a variable or a local.
func (w *texter) name(letter string) string {
	list := []string{"x" + letter}
	for _, name := range w.locals {
		if strings.HasPrefix(name, letter) {
			list = append(list, name)
		}
	}
	return w.one(list...)
}

func (w *texter) expr(letter string, deep int) string {
	if deep == 0 || w.Intn(5) == 0 {
		return w.one(w.name(letter), map[string]string{"i": "7", "f": "#3ff0000000000000", "b": "true"}[letter])
	}
	e := func(letter string) string { return w.expr(letter, deep-1) }
	if w.Intn(6) == 0 {
		return fmt.Sprintf("a%s[%s]", letter, e("i"))
	}
	two := func(letter string, ops ...string) string {
		return "(" + e(letter) + " " + w.one(ops...) + " " + e(letter) + ")"
	}
	switch letter {
	case "i":
		return w.one("-"+e("i"), "int("+e("f")+")", two("i", "+", "-", "*", "/", "%"))
	case "f":
		return w.one("-"+e("f"), "float("+e("i")+")", two("f", "+", "-", "*", "/"))
	}
	ranks := []string{"==", "!=", "<", "<=", ">", ">="}
	return w.one("!"+e("b"), two("b", "&&", "||"), two("b", "==", "!="), two("b", "&&", "||"), two("i", ranks...), two("f", ranks...))
}

// TestRandomTexts: the code of each text is right; of each Op many come.
func TestRandomTexts(t *testing.T) {
	r := rand.New(rand.NewSource(165))
	var counts [27]int
	took := 0
	for range many(2500) {
		src := randomText(r)
		if _, bad := comp.Build(src); bad.Err == api.ErrLarge {
			continue
		}
		took++
		for _, in := range checkText(t, src).Body {
			counts[in.Op]++
		}
		if t.Failed() {
			return
		}
	}
	for op, n := range counts[1:] {
		if n < many(300) {
			t.Errorf("%s came %d times", opNames[op], n)
		}
	}
	if took < many(2400) {
		t.Error(took)
	}
}

// TestChangedTexts: of texts of which a byte or some were changed: what Build takes is right; what it refuses has no code, which isn't right.
func TestChangedTexts(t *testing.T) {
	r := rand.New(rand.NewSource(166))
	took := 0
	for range many(6000) {
		src := []byte(randomText(r))
		for range 1 + r.Intn(2) {
			at := r.Intn(len(src))
			switch r.Intn(4) {
			case 0: // another operator, if it is one: often that does as well
				if i := strings.IndexByte("+-*/", src[at]); i >= 0 {
					src[at] = "+-*/"[r.Intn(4)]
				}
			case 1:
				src[at] = "xif0179+-*/<>=!&|(){}[],; "[r.Intn(26)]
			case 2:
				src = slices.Delete(src, at, at+1)
			case 3:
				src = slices.Insert(src, at, src[r.Intn(len(src))])
			}
		}
		if c, bad := comp.Build(string(src)); bad.Err == nil {
			took++
			checkText(t, string(src))
		} else {
			checkWrong(t, c)
		}
		if t.Failed() {
			return
		}
	}
	if took < many(400) {
		t.Error(took)
	}
}

// TestChangedCodesOfTexts: what isn't right by the model is refused, and nothing else is.
func TestChangedCodesOfTexts(t *testing.T) {
	r := rand.New(rand.NewSource(167))
	took, refused := 0, 0
	for range many(2000) {
		c, bad := comp.Build(randomText(r))
		if bad.Err != nil {
			continue
		}
		for range 5 {
			d := changed(r, c)
			if checkModel(t, d) {
				took++
			} else {
				refused++
			}
		}
		if t.Failed() {
			return
		}
	}
	if took < many(1500) || refused < many(3000) {
		t.Error(took, refused)
	}
}
