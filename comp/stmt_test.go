package comp_test

import "testing"

// The tests of P15.1 on statements, by texts and their listings.

func TestSet(t *testing.T) {
	checkRows(t, []row{
		inMain("$a x = $b 1;", "Int 1 b, Write 0 a"),
		inMain("$a f = $b #0000000000000001;", "Float 1 b, Write 1 a"),
		inMain("$a b = $b false;", "Bool 0 b, Write 2 a"),
		inMain("$a x = $b x - $c x;", "Read 0 b, Read 0 c, Binary 2 b, Write 0 a"),
		inMain("$v v := $w 1; $a v = $b v * $c 2;", "Int 1 w, SetLocal 0 v, Local 0 b, Int 2 c, Binary 3 b, SetLocal 0 a"),
		inMain("$a a[$b 0] = $c 9;", "Int 0 b, Int 9 c, WriteElem 3 3 a"),
		inMain("$a g[$b x + $c 1] = $d -$f f;", "Read 0 b, Int 1 c, Binary 1 b, Read 1 f, Unary 1 d, WriteElem 6 2 a"),
		inMain("$a h[$b 3] = $c h[$d 2];", "Int 3 b, Int 2 d, ReadElem 8 4 c, WriteElem 8 4 a"),
		inMain("$a a[$b a[$c a[$d 0]]] = $f a[$g a[$h 1]];",
			"Int 0 d, ReadElem 3 3 c, ReadElem 3 3 b, Int 1 h, ReadElem 3 3 g, ReadElem 3 3 f, WriteElem 3 3 a"),
		{"func main() $m { } func q(p int, r bool) $e { $a p = $b p; $c r = $d !$f r; }",
			"Return m, Local 0 b, SetLocal 0 a, Local 1 f, Unary 2 d, SetLocal 1 c, Return e"},
	})
}

func TestLet(t *testing.T) {
	checkRows(t, []row{
		inMain("$a u := $b 1; $c v := $d f; $f w := $g u < $h 2;",
			"Int 1 b, SetLocal 0 a, Read 1 d, SetLocal 1 c, Local 0 g, Int 2 h, Binary 8 g, SetLocal 2 f"),
		{"func main() $m { } func q(p int, r bool) $e { $a v := $b p; }", "Return m, Local 0 b, SetLocal 2 a, Return e"},
	})
}

// TestGoAndCall: arguments come from the left, ahead of the instruction; functions may stand behind, and may be the one itself.
func TestGoAndCall(t *testing.T) {
	checkRows(t, []row{
		{"func w() $f { } func main() $e { $a w(); $b go w(); }", "Return f, Call 0 a, Go 0 b, Return e"},
		{"func main() $e { $a go w(); $b w(); $c main(); $d go main(); } func w() $f { }", "Go 1 a, Call 1 b, Call 0 c, Go 0 d, Return e, Return f"},
		{"var x int; func main() $e { $a go w($b 1, $c float($d x), $g x > $h 0, $i x + $j 2); } func w(p int, q float, r bool, s int) $f { $k w($l p, $m q, $n r, $o s); }",
			"Int 1 b, Read 0 d, Unary 4 c, Read 0 g, Int 0 h, Binary 10 g, Read 0 i, Int 2 j, Binary 1 i, Go 1 a, Return e, Local 0 l, Local 1 m, Local 2 n, Local 3 o, Call 1 k, Return f"},
		{"var a[2] int; func v() $g { } func u(p int) $h { } func main() $e { $a u($b a[$c 1]); $d go u($i a[$j 0]); }",
			"Return g, Return h, Int 1 c, ReadElem 0 2 b, Call 1 a, Int 0 j, ReadElem 0 2 i, Go 1 d, Return e"},
	})
}

func TestObjects(t *testing.T) {
	checkRows(t, []row{
		inMain("$a lock m; $b unlock m; $c lock n; $d unlock n;", "Lock 0 a, Unlock 0 b, Lock 1 c, Unlock 1 d"),
		inMain("$a unlock n; $b lock n;", "Unlock 1 a, Lock 1 b"),
		inMain("$a send c, $b 1; $c send d, $d f; $f send o, $g b;", "Int 1 b, Send 0 a, Read 1 d, Send 1 c, Read 2 g, Send 2 f"),
		inMain("$a send c, $b a[$c x];", "Read 0 c, ReadElem 3 3 b, Send 0 a"),
		inMain("$a add j, $b 1; $c add k, $d -$f x;", "Int 1 b, Add 0 a, Read 0 f, Unary 1 d, Add 1 c"),
		inMain("$a put j, $b 1; $c put k, $d x % $f 2;", "Int 1 b, Put 0 a, Read 0 d, Int 2 f, Binary 5 d, Put 1 c"),
	})
}

// TestRecvAndGet: the target's kid, if it is an element, ahead of the event; the store behind it, where the target stands.
func TestRecvAndGet(t *testing.T) {
	checkRows(t, []row{
		inMain("$a recv c, $b x; $c recv d, $d f; $f recv o, $g b;", "Recv 0 a, Write 0 b, Recv 1 c, Write 1 d, Recv 2 f, Write 2 g"),
		inMain("$v v := $w 1; $a recv c, $b v;", "Int 1 w, SetLocal 0 v, Recv 0 a, SetLocal 0 b"),
		inMain("$a recv c, $b a[$c 1];", "Int 1 c, Recv 0 a, WriteElem 3 3 b"),
		inMain("$a recv d, $b g[$c x + $d a[$f 0]];", "Read 0 c, Int 0 f, ReadElem 3 3 d, Binary 1 c, Recv 1 a, WriteElem 6 2 b"),
		inMain("$a recv o, $b h[$c int($d f)];", "Read 1 d, Unary 3 c, Recv 2 a, WriteElem 8 4 b"),
		inMain("$a get j, $b x; $c get k, $d x;", "Get 0 a, Write 0 b, Get 1 c, Write 0 d"),
		inMain("$u u := $t true; $v v := $w 1; $a get k, $b v;", "Bool 1 t, SetLocal 0 u, Int 1 w, SetLocal 1 v, Get 1 a, SetLocal 1 b"),
		inMain("$a get j, $b a[$c a[$d 2]];", "Int 2 d, ReadElem 3 3 c, Get 0 a, WriteElem 3 3 b"),
	})
}

func TestFail(t *testing.T) {
	checkRows(t, []row{
		inMain("$a fail $b x;", "Read 0 b, Fail a"),
		inMain("$a fail $b a[$c 1] - $d 1;", "Int 1 c, ReadElem 3 3 b, Int 1 d, Binary 2 b, Fail a"),
		inMain("$a fail $b 1; $c fail $d 2;", "Int 1 b, Fail a, Int 2 d, Fail c"),
	})
}

// TestReturn: a function has a Return at its end, whatever is ahead of it.
func TestReturn(t *testing.T) {
	checkRows(t, []row{
		{"func main() $e {}", "Return e"},
		inMain("", ""),
		inMain("$a return;", "Return a"),
		inMain("$a return; $b return;", "Return a, Return b"),
		inMain("$a lock m; $b return; $c unlock m;", "Lock 0 a, Return b, Unlock 0 c"),
		inMain("$a if $b b { $c return; } $d lock m;", "Read 2 b, JumpIf 3 0 a, Return c, Lock 0 d"),
		{"func w() $f { $a return; } func main() $e { $b return; }", "Return a, Return f, Return b, Return e"},
	})
}

func TestIf(t *testing.T) {
	checkRows(t, []row{
		inMain("$a if $b b { $c lock m; }", "Read 2 b, JumpIf 3 0 a, Lock 0 c"),
		inMain("$a if $b b { $c lock m; $d unlock m; } $f lock n;", "Read 2 b, JumpIf 4 0 a, Lock 0 c, Unlock 0 d, Lock 1 f"),
		inMain("$a if $b b { $c lock m; } else { $d lock n; }", "Read 2 b, JumpIf 4 0 a, Lock 0 c, Jump 5 a, Lock 1 d"),
		inMain("$a if $b b { $c lock m; } else { $d lock n; $f unlock n; } $g unlock m;",
			"Read 2 b, JumpIf 4 0 a, Lock 0 c, Jump 6 a, Lock 1 d, Unlock 1 f, Unlock 0 g"),
		inMain("$a if $b x < $c 1 { } $d lock m;", "Read 0 b, Int 1 c, Binary 8 b, JumpIf 4 0 a, Lock 0 d"),
		inMain("$a if $b true { }", "Bool 1 b, JumpIf 2 0 a"),
		inMain("$a if $b true { } else { }", "Bool 1 b, JumpIf 3 0 a, Jump 3 a"),
		inMain("$a if $b true { } else { $c lock m; }", "Bool 1 b, JumpIf 3 0 a, Jump 4 a, Lock 0 c"),
		inMain("$a if $b true { $c lock m; } else { }", "Bool 1 b, JumpIf 4 0 a, Lock 0 c, Jump 4 a"),
		inMain("$a if $b true { } $c if $d false { }", "Bool 1 b, JumpIf 2 0 a, Bool 0 d, JumpIf 4 0 c"),
		inMain("$v v := $w b; $a if $b v { }", "Read 2 w, SetLocal 0 v, Local 0 b, JumpIf 4 0 a"),
	})
}

func TestWhile(t *testing.T) {
	checkRows(t, []row{
		inMain("$a while $b b { }", "Turn a, Read 2 b, JumpIf 4 0 a, Jump 0 a"),
		inMain("$a while $b b { $c lock m; $d unlock m; } $f lock n;", "Turn a, Read 2 b, JumpIf 6 0 a, Lock 0 c, Unlock 0 d, Jump 0 a, Lock 1 f"),
		inMain("$c lock m; $a while $b h[$d x] { $f x = $g 1; }",
			"Lock 0 c, Turn a, Read 0 d, ReadElem 8 4 b, JumpIf 8 0 a, Int 1 g, Write 0 f, Jump 1 a"),
		inMain("$a while $b true { } $c while $d false { }", "Turn a, Bool 1 b, JumpIf 4 0 a, Jump 0 a, Turn c, Bool 0 d, JumpIf 8 0 c, Jump 4 c"),
		inMain("$a while $b true { $c return; }", "Turn a, Bool 1 b, JumpIf 5 0 a, Return c, Jump 0 a"),
	})
}

// TestOneWithinAnother: KIf and KWhile, and where each one's jumps go on.
func TestOneWithinAnother(t *testing.T) {
	checkRows(t, []row{
		inMain("$a if $b b { $c if $d b { } }", "Read 2 b, JumpIf 4 0 a, Read 2 d, JumpIf 4 0 c"),
		inMain("$a if $b b { $c if $d b { $f lock m; } $g unlock m; } $h lock n;",
			"Read 2 b, JumpIf 6 0 a, Read 2 d, JumpIf 5 0 c, Lock 0 f, Unlock 0 g, Lock 1 h"),
		inMain("$a if $b true { $c if $d false { } else { } } else { $f if $g b { } else { } }",
			"Bool 1 b, JumpIf 6 0 a, Bool 0 d, JumpIf 5 0 c, Jump 5 c, Jump 9 a, Read 2 g, JumpIf 9 0 f, Jump 9 f"),
		inMain("$a if $b true { $c lock m; } else { $d if $f false { $g lock n; } else { $h unlock m; } }",
			"Bool 1 b, JumpIf 4 0 a, Lock 0 c, Jump 9 a, Bool 0 f, JumpIf 8 0 d, Lock 1 g, Jump 9 d, Unlock 0 h"),
		inMain("$a while $b true { $c while $d false { } }",
			"Turn a, Bool 1 b, JumpIf 8 0 a, Turn c, Bool 0 d, JumpIf 7 0 c, Jump 3 c, Jump 0 a"),
		inMain("$a while $b true { $c if $d b { $f return; } else { $g while $h false { $i lock m; } } $j lock n; } $k unlock n;",
			"Turn a, Bool 1 b, JumpIf 14 0 a, Read 2 d, JumpIf 7 0 c, Return f, Jump 12 c, Turn g, Bool 0 h, JumpIf 12 0 g, Lock 0 i, Jump 7 g, Lock 1 j, Jump 0 a, Unlock 1 k"),
		inMain("$a if $b true { $c while $d b { } }", "Bool 1 b, JumpIf 6 0 a, Turn c, Read 2 d, JumpIf 6 0 c, Jump 2 c"),
		inMain("$a if $b true { $c while $d b { } } else { $f while $g b { } }",
			"Bool 1 b, JumpIf 7 0 a, Turn c, Read 2 d, JumpIf 6 0 c, Jump 2 c, Jump 11 a, Turn f, Read 2 g, JumpIf 11 0 f, Jump 7 f"),
	})
}

// TestSecondFunctions: jumps are places of the body, not of the function.
func TestSecondFunctions(t *testing.T) {
	checkRows(t, []row{
		{"func w() $f { } func main() $e { $a while $b true { } } func v() $g { $c if $d true { $h return; } else { } $i v2 := $j true || $k false; $l while $m v2 { $n if $o v2 { } } }",
			"Return f, Turn a, Bool 1 b, JumpIf 5 0 a, Jump 1 a, Return e, " +
				"Bool 1 d, JumpIf 10 0 c, Return h, Jump 10 c, Bool 1 j, Short 13 1 j, Bool 0 k, SetLocal 0 i, Turn l, Local 0 m, JumpIf 20 0 l, Local 0 o, JumpIf 19 0 n, Jump 14 l, Return g"},
	})
}
