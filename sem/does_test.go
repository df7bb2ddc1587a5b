package sem_test

import (
	"strings"
	"testing"
)

// The tests of P13.1 by tables: what each kind of expression and of statement does, in which order, and at which byte.

func TestExample(t *testing.T) {
	checkRows(t, []row{{text: "var x int; func main() $e { $a x = $b x + 1; }", does: "read 0 b, write 0 a, end e, Finished"}})
}

// TestExamplesOfTheWhole: those of the document that have to do with what a program does.
func TestExamplesOfTheWhole(t *testing.T) {
	checkRows(t, []row{
		{text: "var x int; func w() $f { $c x = 1; } func main() $e { $a go w(); $b x = 2; }", does: "go 1 a, write 0 b, end e, 1: write 0 c, 1: end f, Finished"},
		{text: "var x int; mutex m; func w() $f { $h lock m; $c x = 1; $i unlock m; } func main() $e { $a go w(); $g lock m; $b x = 2; $j unlock m; }", picks: []int{1},
			does: "go 1 a, 1: lock 0 h, 1: write 0 c, 1: unlock 0 i, 1: end f, lock 0 g, write 0 b, unlock 0 j, end e, Finished"},
		{text: "var x int; chan c[0] int; func w() $f { $a x = 1; $b send c, 0; } func main() $e { $g go w(); v := 0; $d recv c, v; $h x = 2; }",
			does: "go 1 g, 1: write 0 a, 1: send 0 b, recv 0 d, write 0 h, end e, 1: end f, Finished"},
		{text: "func main() { $a fail 7; }", does: "FaultFail 7 a"},
		{text: "mutex m; func main() { $a lock m; lock m; }", does: "lock 0 a, Deadlock"},
		{text: "func main() { $a while true { } }", does: strings.Repeat("turn a, ", 200) + "FuelOut"},
	})
}

// TestExpressions: what the expression comes to is told by a fail.
func TestExpressions(t *testing.T) {
	checkRows(t, []row{
		{text: "func main() { $a fail 0; }", does: "FaultFail 0 a"},
		{text: "func main() { $a fail 9223372036854775807; }", does: "FaultFail 9223372036854775807 a"},
		{text: "func main() { $a fail -9223372036854775807 - 1; }", does: "FaultFail -9223372036854775808 a"},
		{text: "func main() { $a fail int(#4045000000000000); }", does: "FaultFail 42 a"},
		{text: "func main() { if true { $a fail 1; } fail 2; }", does: "FaultFail 1 a"},
		{text: "func main() { if false { fail 1; } $a fail 2; }", does: "FaultFail 2 a"},
		{text: "func main() { v := 3; w := v; v = 4; $a fail w * 10 + v; }", does: "FaultFail 34 a"},
		{text: "func main() { v := #4045000000000000; w := v; $a fail int(w + v); }", does: "FaultFail 84 a"},
		{text: "func main() { v := 1 < 2; w := !v; if v && !w { $a fail 1; } }", does: "FaultFail 1 a"},
		{text: "var y bool; var x int; func main() { $a fail $b x; }", does: "read 1 b, FaultFail 0 a"},
		{text: "var x float; func main() { $a fail int($b x); }", does: "read 0 b, FaultFail 0 a"},
		{text: "var x bool; func main() { if $b x { fail 1; } $a fail 2; }", does: "read 0 b, FaultFail 2 a"},
		{text: "var y bool; var a[3] int; func main() { $a a[2] = 5; $b a[0] = 7; $c fail $d a[2] * 10 + $e a[0] + $f a[1]; }", does: "write 3 a, write 1 b, read 3 d, read 1 e, read 2 f, FaultFail 57 c"},
		{text: "var a[2] float; func main() { $a a[1] = float(6); $c fail int($d a[1]); }", does: "write 1 a, read 1 d, FaultFail 6 c"},
		{text: "var a[2] bool; func main() { $a a[0] = true; if $d a[0] { $c fail 1; } }", does: "write 0 a, read 0 d, FaultFail 1 c"},
		{text: "func main() { $a fail - - 5 - 7 % 4; }", does: "FaultFail 2 a"},
		{text: "func main() { $a fail -(5 / 2) * 3; }", does: "FaultFail -6 a"},
		{text: "func main() { if 1 == 1 && 1 != 2 && 1 < 2 && 1 <= 1 && 2 > 1 && 2 >= 2 && true == true && false != true && !(1 > 2) { $a fail 1; } }", does: "FaultFail 1 a"},
		{text: "func main() { if #0000000000000000 == #8000000000000000 && !(#7ff8000000000001 == #7ff8000000000001) { $a fail 1; } }", does: "FaultFail 1 a"},
		{text: "func main() { $a fail int(float(7) / float(2) * float(100) + float(1) - float(1)); }", does: "FaultFail 350 a"},
		{text: "func main() $e { v := #3ff0000000000000 / #0000000000000000; }", does: "end e, Finished"},
	})
}

// TestOrder: operands and arguments from the left; a target's kid ahead of what it is set to, of EvRecv and of EvGet.
func TestOrder(t *testing.T) {
	const vars = "var x int; var y int; var a[4] int; chan c[1] int; atomic k; func f(p int, q int, r int) $g { } "
	checkRows(t, []row{
		{text: vars + "func main() $e { $c x = $a x - $b y; }", does: "read 0 a, read 1 b, write 0 c, end e, Finished"},
		{text: vars + "func main() $e { $d x = $a x - ($b y - $c x) * $f y; }", does: "read 0 a, read 1 b, read 0 c, read 1 f, write 0 d, end e, Finished"},
		{text: vars + "func main() $e { if $a x <= $b y { } }", does: "read 0 a, read 1 b, end e, Finished"},
		{text: vars + "func main() $e { v := -($a x) + -($b y); }", does: "read 0 a, read 1 b, end e, Finished"},
		{text: vars + "func main() $e { v := $a a[$b x] + $c a[$d y + 1]; }", does: "read 0 b, read 2 a, read 1 d, read 3 c, end e, Finished"},
		{text: vars + "func main() $e { v := $a a[$b a[$c x] + 2]; }", does: "read 0 c, read 2 b, read 4 a, end e, Finished"},
		{text: vars + "func main() $e { $s f($a y, $b x, $c y + $d x); }", does: "read 1 a, read 0 b, read 1 c, read 0 d, turn s, end e, Finished"},
		{text: vars + "func main() $e { $s go f($a y, $b x, $c y + $d x); }", does: "read 1 a, read 0 b, read 1 c, read 0 d, go 1 s, end e, 1: end g, Finished"},
		{text: vars + "func main() $e { $a a[$b x] = $c y; }", does: "read 0 b, read 1 c, write 2 a, end e, Finished"},
		{text: vars + "func main() $e { $a a[$b a[$c x + 1]] = $d a[$f y]; }", does: "read 0 c, read 3 b, read 1 f, read 2 d, write 2 a, end e, Finished"},
		{text: vars + "func main() $e { $a x = 1; $b a[$c x] = $d a[$f x] + $h x; }", does: "write 0 a, read 0 c, read 0 f, read 3 d, read 0 h, write 3 b, end e, Finished"},
		{text: vars + "func main() $e { $s send c, $a x + $b y; $r recv c, $d a[$f y + 3]; }", does: "read 0 a, read 1 b, send 0 s, read 1 f, recv 0 r, write 5 d, end e, Finished"},
		{text: vars + "func main() $e { $s send c, 7; $r recv c, $d x; $h fail $i x; }", does: "send 0 s, recv 0 r, write 0 d, read 0 i, FaultFail 7 h"},
		{text: vars + "func main() $e { v := 1; $s send c, 7; $r recv c, v; $h fail v; }", does: "send 0 s, recv 0 r, FaultFail 7 h"},
		{text: vars + "func main() $e { $p put k, $a x - $b y; $q add k, $c y + $d x; $r get k, $f a[$h x]; }", does: "read 0 a, read 1 b, put 0 p, read 1 c, read 0 d, add 0 q, read 0 h, get 0 r, write 2 f, end e, Finished"},
		{text: vars + "func main() $e { $p put k, 5; $q add k, -7; $r get k, $f y; $h fail $i y; }", does: "put 0 p, add 0 q, get 0 r, write 1 f, read 1 i, FaultFail -2 h"},
		{text: vars + "func main() $e { v := 1; $q add k, 9; $r get k, v; $h fail v; }", does: "add 0 q, get 0 r, FaultFail 9 h"},
		// What is between the target's kid and its write may change what the kid was evaluated from.
		{text: vars + "func main() $e { $a send c, 3; $b recv c, $d a[$f x]; $h x = 1; $i fail $j a[0]; }", does: "send 0 a, read 0 f, recv 0 b, write 2 d, write 0 h, read 2 j, FaultFail 3 i"},
		{text: vars + "func main() $e { v := 0; $a send c, 3; $b recv c, v; $d a[v] = v * 2; v = 3; $i fail $j a[v]; }", does: "send 0 a, recv 0 b, write 5 d, read 5 j, FaultFail 6 i"},
		{text: vars + "func main() $e { $i fail $a x + $b y; }", does: "read 0 a, read 1 b, FaultFail 0 i"},
	})
}

// TestShort: the second kid of && and || is evaluated just where the first one doesn't tell the result.
func TestShort(t *testing.T) {
	const vars = "var p bool; var q bool; var r bool; "
	checkRows(t, []row{
		{text: vars + "func main() $e { if $a p && $b q { fail 1; } }", does: "read 0 a, end e, Finished"},
		{text: vars + "func main() $e { $x p = true; if $a p && $b q { fail 1; } }", does: "write 0 x, read 0 a, read 1 b, end e, Finished"},
		{text: vars + "func main() $e { $x p = true; $y q = true; if $a p && $b q { $f fail 1; } }", does: "write 0 x, write 1 y, read 0 a, read 1 b, FaultFail 1 f"},
		{text: vars + "func main() $e { $y q = true; if $a p && $b q { fail 1; } }", does: "write 1 y, read 0 a, end e, Finished"},
		{text: vars + "func main() $e { if $a p || $b q { fail 1; } }", does: "read 0 a, read 1 b, end e, Finished"},
		{text: vars + "func main() $e { $x p = true; if $a p || $b q { $f fail 1; } }", does: "write 0 x, read 0 a, FaultFail 1 f"},
		{text: vars + "func main() $e { $y q = true; if $a p || $b q { $f fail 1; } }", does: "write 1 y, read 0 a, read 1 b, FaultFail 1 f"},
		{text: vars + "func main() $e { if $a p && $b q || $c r { fail 1; } }", does: "read 0 a, read 2 c, end e, Finished"},
		{text: vars + "func main() $e { if ($a p || $b q) && $c r { fail 1; } }", does: "read 0 a, read 1 b, end e, Finished"},
		{text: vars + "func main() $e { if !($a p) && !($b q) && $c r { fail 1; } }", does: "read 0 a, read 1 b, read 2 c, end e, Finished"},
		{text: vars + "func main() $e { $x p = $a p || !($b q || $c r); if $d p { $f fail 1; } }", does: "read 0 a, read 1 b, read 2 c, write 0 x, read 0 d, FaultFail 1 f"},
		{text: vars + "func main() $e { v := $a p && 1 / 0 == 1; if v { fail 1; } $f fail 2; }", does: "read 0 a, FaultFail 2 f"},
		{text: vars + "func main() $e { v := !($a p) || 1 / 0 == 1; if v { $f fail 1; } fail 2; }", does: "read 0 a, FaultFail 1 f"},
		{text: vars + "func main() $e { v := $a p || $b 1 / 0 == 1; }", does: "read 0 a, FaultZero b"},
		{text: vars + "func main() $e { v := !($a p) && $b 1 / 0 == 1; }", does: "read 0 a, FaultZero b"},
		{text: vars + "func main() $e { v := ($b 1 / 0 == 1) && $a p; }", does: "FaultZero b"},
		{text: vars + "func main() $e { $w while $a p || $b q { } }", does: "turn w, read 0 a, read 1 b, end e, Finished"},
		{text: "func main() { v := true && false; w := false || true; if !v && w { $f fail 1; } }", does: "FaultFail 1 f"},
	})
}

func TestTurns(t *testing.T) {
	checkRows(t, []row{
		{text: "func main() $e { }", does: "end e, Finished"},
		{text: "func f() { } func main() $e { $a f(); $b f(); }", does: "turn a, turn b, end e, Finished"},
		{text: "var x int; func f(p int) { $c x = p; } func main() $e { $a f(3); $b f($d x + 1); $g fail $h x; }", does: "turn a, write 0 c, read 0 d, turn b, write 0 c, read 0 h, FaultFail 4 g"},
		{text: "func main() $e { $w while false { fail 1; } }", does: "turn w, end e, Finished"},
		{text: "func main() $e { v := 0; $w while v < 3 { v = v + 1; } $f fail v; }", does: "turn w, turn w, turn w, turn w, FaultFail 3 f"},
		{text: "var x int; func main() $e { $w while $c x < 2 { $a x = $b x + 1; } }",
			does: "turn w, read 0 c, read 0 b, write 0 a, turn w, read 0 c, read 0 b, write 0 a, turn w, read 0 c, end e, Finished"},
		{text: "func main() $e { v := 0; $w while v < 2 { v = v + 1; u := 0; $x while u < v { u = u + 1; } } }",
			does: "turn w, turn x, turn x, turn w, turn x, turn x, turn x, turn w, end e, Finished"},
		{text: "func f() { v := 0; $w while v < 1 { v = v + 1; $b g(); } } func g() { $x while false { } } func main() $e { $a f(); }", does: "turn a, turn w, turn b, turn x, turn w, end e, Finished"},
		{text: "func w() $g { } func main() $e { $a go w(); $b w(); $c go w(); }", does: "go 1 a, turn b, go 2 c, end e, 1: end g, 2: end g, Finished"},
		// The end stands at the block of the function with which the goroutine began, wherever it was left.
		{text: "func f() { return; } func w() $g { $b f(); return; } func main() $e { $a go w(); $c w(); $d f(); }", does: "go 1 a, turn c, turn b, turn d, end e, 1: turn b, 1: end g, Finished"},
		{text: "var x int; func main() $e { if $a x < 2 { $b x = $c x + 1; $d main(); } }", does: "read 0 a, read 0 c, write 0 b, turn d, read 0 a, read 0 c, write 0 b, turn d, read 0 a, end e, Finished"},
		{text: "var x int; func main() $e { if $a x < 2 { $b x = $c x + 1; $d go main(); } }",
			does: "read 0 a, read 0 c, write 0 b, go 1 d, end e, 1: read 0 a, 1: read 0 c, 1: write 0 b, 1: go 2 d, 1: end e, 2: read 0 a, 2: end e, Finished"},
	})
}

func TestBranches(t *testing.T) {
	checkRows(t, []row{
		{text: "var x int; func main() $e { if true { $a x = 1; } else { $b x = 2; } $c x = 3; }", does: "write 0 a, write 0 c, end e, Finished"},
		{text: "var x int; func main() $e { if false { $a x = 1; } else { $b x = 2; } $c x = 3; }", does: "write 0 b, write 0 c, end e, Finished"},
		{text: "var x int; func main() $e { if true { $a x = 1; } $c x = 3; }", does: "write 0 a, write 0 c, end e, Finished"},
		{text: "var x int; func main() $e { if false { $a x = 1; } $c x = 3; }", does: "write 0 c, end e, Finished"},
		{text: "var x int; func main() $e { if true { } else { $b x = 2; } if false { $d x = 1; } else { } }", does: "end e, Finished"},
		{text: "var x int; func main() $e { if $a x == 0 { if $b x == 1 { fail 1; } else { if $c x == 2 { fail 2; } $d x = 4; } $f x = 5; } }", does: "read 0 a, read 0 b, read 0 c, write 0 d, write 0 f, end e, Finished"},
	})
}

// TestReturn within loops and branches, in a called function and in the goroutine's first one.
func TestReturn(t *testing.T) {
	checkRows(t, []row{
		{text: "func main() $e { return; fail 1; }", does: "end e, Finished"},
		{text: "func main() $e { $w while true { return; fail 1; } fail 2; }", does: "turn w, end e, Finished"},
		{text: "func main() $e { if true { return; fail 1; } fail 2; }", does: "end e, Finished"},
		{text: "func main() $e { if false { } else { return; } fail 2; }", does: "end e, Finished"},
		{text: "func main() $e { if false { return; } $a fail 2; }", does: "FaultFail 2 a"},
		{text: "func f() { return; fail 1; } func main() $e { $a f(); $b f(); }", does: "turn a, turn b, end e, Finished"},
		{text: "func f(p int) { v := 0; $w while true { $x while true { if v == p { return; } else { v = v + 1; } } fail 1; } fail 2; } func main() $e { $a f(2); $b f(0); $c fail 3; }",
			does: "turn a, turn w, turn x, turn x, turn x, turn b, turn w, turn x, FaultFail 3 c"},
		{text: "var x int; func f(p int) { if p > 0 { $a f(p - 1); if p == 2 { return; } } $b x = p; } func main() $e { $c f(3); }", does: "turn c, turn a, turn a, turn a, write 0 b, write 0 b, write 0 b, end e, Finished"},
		{text: "func f() { return; } func main() $e { v := 0; $w while v < 2 { v = v + 1; if v < 9 { $a f(); } } }", does: "turn w, turn a, turn w, turn a, turn w, end e, Finished"},
		{text: "func w() $g { $w while true { return; } } func main() $e { $a go w(); $b w(); }", does: "go 1 a, turn b, turn w, end e, 1: turn w, 1: end g, Finished"},
	})
}

// TestLocals: each call has its own.
func TestLocals(t *testing.T) {
	checkRows(t, []row{
		{text: "var x int; func f(n int) { v := n * 10; if n > 0 { $a f(n - 1); } $b x = $c x * 100 + v + n; } func main() { $d f(2); $g fail $h x; }",
			does: "turn d, turn a, turn a, read 0 c, write 0 b, read 0 c, write 0 b, read 0 c, write 0 b, read 0 h, FaultFail 1122 g"},
		{text: "func f(n int) { n = n + 1; v := n; v = v + 1; n = 0; } func main() { n := 5; v := 7; $a f(n); $b f(v); $c fail n * 10 + v; }", does: "turn a, turn b, FaultFail 57 c"},
		{text: "var x int; func f(p int, q int) { if p > 0 { $a f(q - 1, p); } $b x = $c x * 100 + p * 10 + q; } func main() { $d f(1, 2); $g fail $h x; }",
			does: "turn d, turn a, turn a, read 0 c, write 0 b, read 0 c, write 0 b, read 0 c, write 0 b, read 0 h, FaultFail 11112 g"},
		{text: "func main() { v := 0; s := 0; $w while v < 3 { v = v + 1; u := v * v; if true { y := u; s = s + y; } } $a fail s; }", does: "turn w, turn w, turn w, turn w, FaultFail 14 a"},
		{text: "chan c[0] int; func w(p int) $x { v := p; $b send c, v; v = 9; } func main() { u := 0; v := 1; $a go w(v + 1); $d go w(3); $f recv c, u; $g recv c, v; $h fail u * 10 + v; }",
			does: "go 1 a, go 2 d, 1: send 0 b, recv 0 f, 1: end x, 2: send 0 b, recv 0 g, FaultFail 23 h"},
		{text: "chan c[0] int; func w(p int) $x { v := p; $b send c, v; v = 9; } func main() { u := 0; v := 1; $a go w(v + 1); $d go w(3); $f recv c, u; $g recv c, v; $h fail u * 10 + v; }",
			does: "go 1 a, go 2 d, 2: send 0 b, recv 0 f, 2: end x, 1: send 0 b, recv 0 g, FaultFail 32 h", picks: []int{1}},
	})
}

// TestArguments of all types, in the order of the parameters.
func TestArguments(t *testing.T) {
	const f = "func f(a int, b float, c bool, d int) { if c { $f fail a * 1000 + int(b) * 10 + d; } fail 0; } "
	checkRows(t, []row{
		{text: f + "func main() { $a f(1, #4000000000000000, true, 3); }", does: "turn a, FaultFail 1023 f"},
		{text: f + "func main() $e { $a go f(1, #4000000000000000, true, 3); }", does: "go 1 a, 1: FaultFail 1023 f"},
		{text: "var x int; " + f + "func main() { v := 4; $a x = 6; $b f(v * 2, float($c x), v < $d x, -v); }", does: "write 0 a, read 0 c, read 0 d, turn b, FaultFail 8056 f"},
		{text: "func g(p int, q int) { $a f(q, p); } func f(p int, q int) { $b fail p * 10 + q; } func main() { $c g(1, 2); }", does: "turn c, turn a, FaultFail 21 b"},
		{text: "func g(p int) $h { $c fail p; } func main() { v := 1; $a go g(v); v = 2; $b fail v; }", does: "go 1 a, FaultFail 2 b"},
		{text: "mutex m; func g(p int) { $c lock m; $d fail p; } func main() $e { v := 1; $a go g(v); v = 2; }", does: "go 1 a, end e, 1: lock 0 c, 1: FaultFail 1 d"},
	})
}

// TestObjects: numbers of places, mutexes, channels and atomics, each of its own kind, and channels of all types.
func TestObjects(t *testing.T) {
	const vars = "mutex m; var x bool; chan c[1] float; var a[2] int; atomic k; chan d[2] bool; mutex n; var y float; atomic l; chan o[8] int; "
	checkRows(t, []row{
		{text: vars + "func main() $e { $a lock n; $b lock m; $c unlock n; $d unlock m; $f lock n; }", does: "lock 1 a, lock 0 b, unlock 1 c, unlock 0 d, lock 1 f, end e, Finished"},
		{text: vars + "func main() $e { $a send c, #4008000000000000; $b recv c, $d y; $f fail int($g y); }", does: "send 0 a, recv 0 b, write 3 d, read 3 g, FaultFail 3 f"},
		{text: vars + "func main() $e { $a send d, true; $b send d, false; $c recv d, $f x; if $g x { $h recv d, $i x; } if $j x { fail 1; } }", does: "send 1 a, send 1 b, recv 1 c, write 0 f, read 0 g, recv 1 h, write 0 i, read 0 j, end e, Finished"},
		{text: vars + "func main() $e { $a send o, 5; $b send o, 6; $c recv o, $d a[1]; $f recv o, $g a[0]; $h fail $i a[0] * 10 + $j a[1]; }", does: "send 2 a, send 2 b, recv 2 c, write 2 d, recv 2 f, write 1 g, read 1 i, read 2 j, FaultFail 65 h"},
		{text: vars + "func main() $e { $a put l, 5; $b add k, 6; v := 0; $c get l, v; $d get k, $f a[0]; $h fail $i a[0] * 10 + v; }", does: "put 1 a, add 0 b, get 1 c, get 0 d, write 1 f, read 1 i, FaultFail 65 h"},
		{text: vars + "func main() $e { $a recv d, x; }", does: "Deadlock"},
		{text: vars + "func main() $e { $a send c, #0000000000000000; send c, #0000000000000000; }", does: "send 0 a, Deadlock"},
	})
}

// TestPicks: who does its event is the pick's; one that waits for others can't be picked.
func TestPicks(t *testing.T) {
	const race = "var x int; func w() $f { $c x = 2; } func main() $e { $a go w(); $b x = 1; }"
	const both = "mutex m; var x int; func w() $f { $g lock m; $h x = 2; $i unlock m; } func main() $e { $a go w(); $b lock m; $c x = 1; $d unlock m; }"
	const meet = "chan c[0] int; func w(n int) $f { $s send c, n; } func main() { v := 0; $a go w(1); $b go w(2); $c recv c, v; $d fail v; }"
	checkRows(t, []row{
		{text: race, does: "go 1 a, write 0 b, end e, 1: write 0 c, 1: end f, Finished"},
		{text: race, picks: []int{1}, does: "go 1 a, 1: write 0 c, 1: end f, write 0 b, end e, Finished"},
		{text: race, picks: []int{1, 0}, does: "go 1 a, 1: write 0 c, write 0 b, 1: end f, end e, Finished"},
		{text: race, picks: []int{-3, 3}, does: "go 1 a, write 0 b, 1: write 0 c, end e, 1: end f, Finished"},
		{text: both, does: "go 1 a, lock 0 b, write 0 c, unlock 0 d, end e, 1: lock 0 g, 1: write 0 h, 1: unlock 0 i, 1: end f, Finished"},
		{text: both, picks: []int{1}, does: "go 1 a, 1: lock 0 g, 1: write 0 h, 1: unlock 0 i, 1: end f, lock 0 b, write 0 c, unlock 0 d, end e, Finished"},
		{text: meet, does: "go 1 a, go 2 b, 1: send 0 s, recv 0 c, FaultFail 1 d"},
		{text: meet, picks: []int{0, 1}, does: "go 1 a, go 2 b, 1: send 0 s, recv 0 c, FaultFail 1 d"},
		{text: meet, picks: []int{1}, does: "go 1 a, go 2 b, 2: send 0 s, recv 0 c, FaultFail 2 d"},
	})
}
