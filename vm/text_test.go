package vm_test

import (
	"fmt"
	"math/rand"
	"slices"
	"strings"
	"testing"

	"stockade/api"
	"stockade/comp"
	"stockade/kind"
	"stockade/sem"
	"stockade/token"
	"stockade/vm"
)

// The tests of P17.2: the code of a text does the same as layer 13's program.

// cut is a text that isn't too long to be told.
func cut(src string) string {
	return src[:min(len(src), 3000)]
}

// A meant is a text, its code and its program.
type meant struct {
	src     string
	code    api.Code
	program api.Program
}

func built(t *testing.T, src string) meant {
	t.Helper()
	c, bad := comp.Build(src)
	p, other := kind.Build(src)
	if bad != (api.Bad{}) || other != (api.Bad{}) {
		t.Fatalf("%s: %v, %v", cut(src), bad, other)
	}
	return meant{src, c, p}
}

// checkPlay holds a play of the code against the program's, which it is given back.
func (m meant) checkPlay(t *testing.T, picks []int, fuel int) ([]api.Event, api.End) {
	t.Helper()
	events, end, err := sem.Play(m.program, picks, fuel)
	if err != nil {
		t.Fatalf("%s: %v", cut(m.src), err)
	}
	got, gotEnd, err := vm.Play(m.code, picks, fuel)
	if gotEnd != end || err != nil || !slices.Equal(got, events) {
		t.Fatalf("%s, picks %v, fuel %d\n got %v %v %v\nwant %v %v", cut(m.src), picks, fuel, got, gotEnd, err, events, end)
	}
	return events, end
}

// checkFuels plays with all fuels from below 0 on.
func (m meant) checkFuels(t *testing.T, picks []int, most int) {
	t.Helper()
	for fuel := -1; fuel <= most; fuel++ {
		m.checkPlay(t, picks, fuel)
	}
}

// checkSteps goes through the code's run beside the program's.
func (m meant) checkSteps(t *testing.T, pick func(n int) int, fuel int) {
	t.Helper()
	run, err := vm.Start(m.code)
	other, bad := sem.Start(m.program)
	if err != nil || bad != nil {
		t.Fatalf("%s: %v, %v", cut(m.src), err, bad)
	}
	checkSame(t, m.src, run, other, pick, fuel)
}

// checkText plays a text with all fuels up to one, by some picks, and step by step.
func checkText(t *testing.T, src string, most int) {
	t.Helper()
	m := built(t, src)
	m.checkFuels(t, nil, most)
	r := rand.New(rand.NewSource(179))
	for range 5 {
		m.checkPlay(t, randomPicks(r), 200)
		m.checkSteps(t, r.Intn, 200)
	}
}

// TestExamplesOfTheWhole: the document's examples of programs.
func TestExamplesOfTheWhole(t *testing.T) {
	const race = "var x int; mutex m; func w() { lock m; x = 1; unlock m; } func main() { go w(); lock m; x = 2; unlock m; }"
	for _, x := range []struct{ src, does string }{
		{"var x int; func w() { x = 1; } func main() { go w(); x = 2; }", "go, write, end, 1: write, 1: end, Finished"},
		{race, "go, lock, write, unlock, end, 1: lock, 1: write, 1: unlock, 1: end, Finished"},
		{"var x int; chan c[0] int; func w() { x = 1; send c, 0; } func main() { go w(); v := 0; recv c, v; x = 2; }", "go, 1: write, 1: send, recv, write, end, 1: end, Finished"},
		{"func main() { fail 7; }", "Faulted 7 7"},
		{"mutex m; func main() { lock m; lock m; }", "lock, Deadlock"},
		{"func main() { while true { } }", strings.Repeat("turn, ", 10) + "FuelOut"},
		{"var x int; func main() { x = x + 1; }", "read, write, end, Finished"},
	} {
		fuel := 400
		if strings.HasSuffix(x.does, "FuelOut") {
			fuel = 10
		}
		var does []string
		events, end := built(t, x.src).checkPlay(t, nil, fuel)
		for _, e := range events {
			does = append(does, goroutine(e.G)+kindNames[e.Kind])
		}
		last := []string{"", "Finished", "Deadlock", "Faulted", "FuelOut"}[end.Outcome]
		if end.Outcome == api.Faulted {
			last += fmt.Sprint(" ", end.Fault, " ", end.N)
		}
		if got := strings.Join(append(does, last), ", "); got != x.does {
			t.Errorf("%s: %s, want %s", x.src, got, x.does)
		}
		checkText(t, x.src, 30)
	}
}

// things is declared ahead of the texts that follow.
const things = "var x int; var y float; var z bool; var a[3] int; var d[2] float; var e[2] bool; mutex m; mutex n; chan c[2] int; chan f[0] float; chan b[8] bool; atomic k; atomic l; "

// TestStatements: statements of each kind, with targets, conditions and arguments of each kind.
func TestStatements(t *testing.T) {
	for _, stmts := range []string{
		"", "x = 3;", "y = #3ff0000000000000;", "z = true;", "x = x + 1; x = x * 2; fail x;", "a[0] = 1; a[2] = 2; fail a[0] + 10 * a[2];", "d[1] = #4000000000000000; y = d[1] + d[0]; fail int(y);", "e[0] = true; z = e[0]; if z { fail 1; }",
		"a[3] = 1;", "a[-1] = 1;", "x = a[3];", "x = a[-1];", "x = 5; a[x] = x;", "x = 5; a[x] = 1 / 0;", "a[a[a[0]]] = a[a[1]];", "a[1] = 2; a[a[1]] = a[1]; fail a[2];", "a[x] = a[x + 1];",
		"v := 1; vv := v + 1; v = vv * 10; fail v;", "v := #3ff0000000000000; d[0] = v; v = d[0] + v; fail int(v);", "v := z; z = !v; v = z; if v { fail 2; }", "v := 1;", "if true { v := 5; x = v; } v := x; fail v;",
		"go w(); x = 1; x = 2;", "go w(); go w(); go w(); fail x;", "go g(1, #3ff0000000000000, true, 2);", "go g(x, y, z, a[0]); x = 1;", "go g(1 / 0, y, z, 1);", "go w(); go w(); go w(); go w(); go w(); go w(); go w(); x = 9;", "go w(); go w(); go w(); go w(); go w(); go w(); go w(); go w(); x = 9;",
		"w(); w(); fail x;", "g(1, #3ff0000000000000, true, 2); fail x;", "g(x, y, z, a[1]); fail x;", "g(1, y, z, 1 % 0);", "r(3); fail x;", "r(15);", "r(16);", "r(17);", "s();", "go r(2); r(3); fail x;", "go r(16); r(15);", "main();", "go main();",
		"lock m; unlock m;", "unlock m;", "lock m; lock n; unlock n; unlock m; lock m;", "lock m; lock m;", "lock m; go h(); x = 1; unlock m; lock n; x = 2; unlock n;", "lock m; unlock n;",
		"send c, 1; send c, 2; recv c, x; recv c, a[x]; fail a[1];", "send c, 1; send c, 2; send c, 3;", "recv c, x;", "go t(); send f, #4000000000000000;", "go t(); send f, y; send f, y;", "send f, y;", "send b, !z; recv b, z; recv b, z;", "send c, 7; recv c, a[a[0]]; fail a[0];", "send c, 7; recv c, a[9];", "send c, 7; v := 0; recv c, v; fail v;", "send c, 1 / 0;", "send b, true; recv b, e[1]; if e[1] { fail 3; }", "go t(); v := y; send f, v; recv f, d[1];",
		"add k, 3; add k, x - 5; get k, x; fail x;", "put k, 4; get k, a[2]; get l, a[1]; fail a[2] + a[1];", "get k, a[7];", "put l, 9223372036854775807; add l, 1; v := 0; get l, v; fail v;", "put k, 1 / 0;", "add k, a[5];", "go q(); get k, x; put k, x + 1;",
		"if z { x = 1; }", "if !z { x = 1; }", "if z { x = 1; } else { x = 2; }", "if !z { x = 1; } else { x = 2; }", "if z { } else { }", "if x == 0 { if z { x = 1; } else { x = 2; } } else { x = 3; } fail x;", "if 1 / x == 1 { x = 1; }", "if z { return; } x = 1;", "if !z { return; } x = 1;",
		"while z { }", "while x < 3 { x = x + 1; } fail x;", "while true { }", "while x < 3 { x = x + 1; while z { } if x == 2 { return; } }", "while !z { if x == 4 { z = true; } else { x = x + 1; } } fail x;", "while 1 / x == 1 { }", "v := 3; while v > 0 { v = v - 1; x = x + v; } fail x;", "while !z && x < 2 || a[0] == 1 { x = x + 1; }", "go w(); while x == 0 { } fail x;",
		"return;", "return; x = 1;", "x = 1; return; x = 2;", "fail 0;", "fail -5;", "fail 9223372036854775807;", "fail x + 3;", "fail 1 / 0;", "fail a[3];", "while true { fail 4; }", "p(); fail x;", "go p(); go p(); fail x;",
	} {
		src := things + "func w() { x = x + 1; } func g(i int, u float, o bool, j int) { v := u; if o { x = i; } else { x = i * 10 + j; } y = v; } func r(i int) { if i > 0 { r(i - 1); x = x + i; } } func s() { s(); } " +
			"func h() { lock m; x = 7; unlock m; } func t() { v := y; recv f, v; y = v; recv f, d[0]; } func q() { v := 0; get k, v; put k, v + 1; } func p() { if x > 0 { return; } x = 5; while true { return; } } func main() { " + stmts + " }"
		checkText(t, src, 25)
	}
}

// TestExpressions: expressions of each kind on some values, those with a fault too.
func TestExpressions(t *testing.T) {
	const one, two, half, nan, inf = "#3ff0000000000000", "#4000000000000000", "#3fe0000000000000", "#7ff8000000000123", "#7ff0000000000000"
	var list []string
	for _, o := range strings.Fields("+ - * / % == != < <= > >=") {
		for _, pair := range [][2]string{{"7", "2"}, {"-7", "2"}, {"0", "0"}, {"9223372036854775807", "2"}, {"x", "a[1]"}, {"-9223372036854775807 - 1", "-1"}, {"(1 / 0)", "1"}, {"1", "(2 % 0)"}, {"a[3]", "1"}, {"1", "a[-1]"}} {
			list = append(list, pair[0]+" "+o+" "+pair[1])
		}
		if o == "%" {
			continue
		}
		for _, pair := range [][2]string{{one, two}, {"-" + one, half}, {nan, one}, {inf, inf}, {"y", "d[1]"}, {"#0000000000000000", "-#0000000000000000"}, {"d[2]", one}} {
			list = append(list, pair[0]+" "+o+" "+pair[1])
		}
	}
	for _, o := range strings.Fields("&& || == !=") {
		for _, pair := range [][2]string{{"true", "true"}, {"true", "false"}, {"false", "true"}, {"false", "false"}, {"z", "e[1]"}, {"e[x]", "z"}, {"z", "(1 / 0 == 1)"}, {"!z", "(1 / 0 == 1)"}, {"(1 / 0 == 1)", "z"}, {"(z || true)", "(!z && false)"}, {"(true && z)", "(z || !z)"}} {
			list = append(list, pair[0]+" "+o+" "+pair[1])
		}
	}
	list = append(list, "-x", "-5", "-y", "-"+nan, "!z", "!e[0]", "int(y)", "int("+two+" * y)", "int("+inf+")", "int("+nan+")", "float(x)", "float(-7)", "int(float(9223372036854775807))", "x", "y", "z", "a[1]", "a[1 + 1]", "a[a[0]]", "d[int(y)]", "e[a[0] + 1]",
		"1 + 2 * 3 - 4 / 3 % 2", "z || !z && x == 0 || 1 / 0 == 1", "z && z || !z && !z", "x < 1 && y < "+one+" && !z", "(x == 0) == !z", nan, inf, "-9223372036854775807 - 1", "true", "0")
	for _, e := range list {
		for _, stmt := range []string{"v := %s;", "v := %s; vv := v; v = vv;", "if x == 0 { v := %s; }"} {
			checkText(t, things+"func main() { "+fmt.Sprintf(stmt, e)+" x = 1; }", 8)
		}
		checkTyped(t, e)
	}
}

// checkTyped writes an expression, sends it, and hands it to a function, as the type that it has.
func checkTyped(t *testing.T, e string) {
	t.Helper()
	took := 0
	for _, x := range []struct{ typ, place, elem, channel string }{{"int", "x", "a[1]", "c"}, {"float", "y", "d[1]", "f"}, {"bool", "z", "e[1]", "b"}} {
		src := things + fmt.Sprintf("func w(p %s) { %s = p; recv %s, %s; recv %s, p; %s = p; } func main() { %s = %s; go w(%s); %s = %s; send %s, %s; w(%s); }",
			x.typ, x.place, x.channel, x.elem, x.channel, x.place, x.place, e, e, x.elem, e, x.channel, e, e)
		if _, bad := comp.Build(src); bad.Err == api.ErrType {
			continue
		}
		took++
		checkText(t, src, 12)
	}
	if took != 1 {
		t.Errorf("%s is of %d types", e, took)
	}
}

// TestNestedTexts: expressions and statements of each kind in one another, as far as may be.
func TestNestedTexts(t *testing.T) {
	for _, x := range []struct {
		before, open, inner, close, after string
		levels                            int // of one
	}{
		{"x = ", "(x + ", "1", ")", ";", 1}, {"x = ", "(", "1", " - x)", ";", 1}, {"x = ", "x * (1 + ", "x", ")", ";", 1},
		{"x = ", "-", "1", "", ";", 1}, {"z = ", "!", "z", "", ";", 1}, {"x = ", "a[", "1", "]", ";", 1}, {"a[x] = ", "1 + a[", "1", "]", ";", 1},
		{"x = ", "int(float(", "x", "))", ";", 2}, {"z = ", "(true == ", "z", ")", ";", 1}, {"z = ", "(", "z", " != true)", ";", 1},
		{"z = ", "(!z && ", "z", ")", ";", 1}, {"z = ", "(", "z", " || true)", ";", 1}, {"z = ", "(!z && true || ", "z", ")", ";", 1}, {"z = ", "(z || !z && !z && ", "z", ")", ";", 1}, {"z = ", "(", "!z", " && !z)", ";", 1},
		{"", "while x < 2 { ", "x = x + 1;", "}", "", 1}, {"", "while !z { ", "return;", "}", "", 1}, {"", "while x < 3 && !z { ", "", "x = x + 1; }", "", 1},
		{"", "if !z { ", "", "}", "", 1}, {"", "if z { return; } else { ", "fail 1;", "}", "", 1}, {"", "if !z { x = 1; ", "return;", "} else { fail x; }", "", 1}, {"", "if !z { x = x + 1; ", "", "} else { fail x; }", "fail x;", 1},
		{"", "if !z { while x < 2 { x = x + 1; ", "x = x - 1;", "} } else { return; }", "", 2},
		{"if ", "(z || ", "z", ")", " { } else { x = 1; }", 1}, {"while ", "!", "z", "", " { return; }", 1}, {"fail ", "-", "1", "", ";", 1},
		{"send c, ", "(x + ", "x", ")", ";", 1}, {"send c, 0; recv c, ", "a[", "x", "]", ";", 1}, {"get k, ", "a[", "x", "]", ";", 1}, {"add k, ", "a[", "x", "]", ";", 1}, {"v := ", "(!z && ", "z", ")", ";", 1},
	} {
		for n := range (api.MaxDepth-1)/x.levels + 1 {
			src := things + "func main() { " + x.before + strings.Repeat(x.open, n) + x.inner + strings.Repeat(x.close, n) + x.after + " }"
			if _, bad := comp.Build(src); bad.Err == api.ErrDepth && n == (api.MaxDepth-1)/x.levels {
				continue // its innermost part is a level, too
			}
			m := built(t, src)
			m.checkPlay(t, nil, 1000)
			m.checkSteps(t, rand.New(rand.NewSource(180)).Intn, 100)
		}
	}
}

// greatText has as much of each limited thing as there may be: places, objects, functions, parameters, locals, elements, calls and levels.
func greatText() string {
	var b strings.Builder
	b.WriteString("var a[64] int; var b[64] bool; ")
	for i := range 10 {
		fmt.Fprintf(&b, "mutex m%d; atomic k%d; chan c%d[8] float; ", i, i, i)
	}
	for i := range api.MaxFuncs - 1 {
		fmt.Fprintf(&b, "func f%d(p int, q float, r bool, s int) { ", i)
		if i == 0 || i == api.MaxFuncs-2 {
			for j := range 28 {
				fmt.Fprintf(&b, "v%d := a[63] + %d; ", j, j)
			}
			b.WriteString(strings.Repeat("if r { ", 13) + "go f14(p + 1, q, b[63], v27); lock m9; add k9, a[s]; send c9, q; recv c9, q; a[62] = v26 + v0; unlock m9; " + strings.Repeat("} ", 13))
		} else {
			fmt.Fprintf(&b, "f%d(s, -q, !r, p); f%d(p, q, r, s); ", max(i-2, 0), i-1)
		}
		b.WriteString("} ")
	}
	b.WriteString("func main() { b[63] = true; a[63] = 5; f13(1, #3ff0000000000000, true, 62); }")
	return b.String()
}

// TestTextsAtLimits: a text that has much of everything, and texts of as many tokens as there may be.
func TestTextsAtLimits(t *testing.T) {
	r := rand.New(rand.NewSource(181))
	great := built(t, greatText())
	for range 10 {
		great.checkPlay(t, randomPicks(r), 3000)
		great.checkSteps(t, r.Intn, 300)
	}
	for _, x := range []struct{ part, end string }{
		{"while b{b=b;return;}", "return;b=b;"}, {"while !b{b=!b;}", ""}, {"x=x;", ""}, {"if b{}", "return;b=b;"}, {"b=b&&b;", "return;"}, {"b=!b||b;", ""}, {"x=x+x;", "return;"}, {"if b{}else{b=!b;}", ""}, {"b=1<2;x=-x;", "fail x;"},
	} {
		src := "var b bool;var x int;func main(){" + x.end
		for {
			next := strings.Replace(src, "{", "{"+x.part, 1)
			if list, bad := token.Tokens(next + "}"); bad.Err != nil || len(list) > api.MaxTokens {
				break
			}
			src = next
		}
		if list, _ := token.Tokens(src + "}"); len(list) < api.MaxTokens-20 {
			t.Error(len(list))
		}
		m := built(t, src+"}")
		events, _ := m.checkPlay(t, nil, 4000)
		m.checkPlay(t, nil, len(events)/2)
		if len(events) < 150 {
			t.Errorf("%s: %d events", cut(src), len(events))
		}
	}
}

// randomMeant is a random text that isn't too long.
func randomMeant(t *testing.T, r *rand.Rand) meant {
	t.Helper()
	for {
		src := randomText(r)
		_, bad := kind.Build(src)
		if bad.Err == nil {
			return built(t, src)
		}
		if bad.Err != api.ErrLarge && bad.Err != api.ErrDepth {
			t.Fatalf("%s: %v", src, bad)
		}
	}
}

// TestRandomTexts: by many picks and with many fuels, and step by step.
func TestRandomTexts(t *testing.T) {
	r := rand.New(rand.NewSource(182))
	counts := outcomes{}
	for range many(3000) {
		m := randomMeant(t, r)
		for range 4 {
			counts.add(m.checkPlay(t, randomPicks(r), r.Intn(300)))
		}
		m.checkSteps(t, r.Intn, 100)
	}
	counts.need(t, many(1000), kindNames[1:]...)
	counts.need(t, many(100), allEnds...)
}

// TestAllFuelsOfTexts plays some texts with every fuel.
func TestAllFuelsOfTexts(t *testing.T) {
	r := rand.New(rand.NewSource(183))
	for range many(100) {
		randomMeant(t, r).checkFuels(t, randomPicks(r), 60)
	}
}

// TestAllPicksOfTexts plays short texts by all short lists of picks, so that goroutines meet in every order.
func TestAllPicksOfTexts(t *testing.T) {
	for _, src := range []string{
		"var x int; func w() { x = x + 1; } func main() { go w(); x = x + 2; if x == 3 { fail x; } }",
		"mutex m; var x int; func w(n int) { lock m; x = x * 10 + n; unlock m; } func main() { go w(1); go w(2); lock m; x = x * 10 + 3; unlock m; while x < 100 { } fail x; }",
		"chan c[0] int; chan d[1] int; func w(n int) { send c, n; v := 0; recv d, v; fail v * 10 + n; } func main() { go w(1); go w(2); v := 0; recv c, v; send d, v; recv c, v; send d, v; }",
		"atomic k; chan c[1] bool; func w() { v := 0; get k, v; put k, v + 1; send c, true; } func main() { go w(); go w(); b := false; recv c, b; recv c, b; v := 0; get k, v; fail v; }",
		"var x int; func f(n int) { if n > 0 { x = x + n; f(n - 1); } } func main() { go f(2); f(2); fail x; }",
	} {
		m := built(t, src)
		ends := map[api.End]int{}
		for n := range 1 << 12 { // each list of six picks, of two bits each
			var picks []int
			for i := range 6 {
				picks = append(picks, n>>(2*i)&3)
			}
			_, end := m.checkPlay(t, picks, 60)
			ends[end]++
		}
		if len(ends) < 2 {
			t.Errorf("%s: all picks end alike: %v", src, ends)
		}
	}
}

// TestChangedTexts: of texts of which a byte was changed those that Build still takes; the others have no code.
func TestChangedTexts(t *testing.T) {
	r := rand.New(rand.NewSource(184))
	took := 0
	for range many(4000) {
		src := []byte(randomText(r))
		place := r.Intn(len(src))
		switch r.Intn(3) {
		case 0: // another operator or number, if it is one: often that does as well
			for _, list := range []string{"+-*/%", "0123456789", "<>"} {
				if strings.IndexByte(list, src[place]) >= 0 {
					src[place] = list[r.Intn(len(list))]
				}
			}
		case 1:
			src = slices.Delete(src, place, place+1)
		case 2:
			src = slices.Insert(src, place, src[r.Intn(len(src))])
		}
		c, bad := comp.Build(string(src))
		if bad.Err != nil {
			checkRefused(t, c)
			continue
		}
		took++
		built(t, string(src)).checkPlay(t, randomPicks(r), 150)
	}
	if took < many(1000) {
		t.Error(took)
	}
}
