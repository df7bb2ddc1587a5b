package comp_test

import (
	"fmt"
	"strings"
	"testing"
)

// The tests of P15.1 on expressions, by texts and their listings.

// shared declares x as place 0, f as 1, b as 2, a from 3 on, g from 6 on, h from 8 on, and some of each other object.
const shared = "var x int; var f float; mutex m; var b bool; var a[3] int; atomic j; chan c[0] int; var g[2] float; chan d[8] float; mutex n; var h[4] bool; atomic k; chan o[1] bool; "

// inMain is the row of a program whose one function does so.
func inMain(stmts, listing string) row {
	return row{shared + "func main() $e { " + stmts + " }", strings.TrimPrefix(listing+", Return e", ", ")}
}

func TestExamples(t *testing.T) {
	checkRows(t, []row{
		{"var x int; func main() $e { $a x = $b x + $c 1; }", "Read 0 b, Int 1 c, Binary 1 b, Write 0 a, Return e"},
		{"var b bool; func main() $e { $a while $b b { } }", "Turn a, Read 0 b, JumpIf 4 0 a, Jump 0 a, Return e"},
	})
}

func TestNumbers(t *testing.T) {
	checkRows(t, []row{
		inMain("$a fail $b 7;", "Int 7 b, Fail a"),
		inMain("$a fail $b 0;", "Int 0 b, Fail a"),
		inMain("$a fail $b 9223372036854775807;", "Int 9223372036854775807 b, Fail a"),
		inMain("$a v := $b #3ff0000000000000;", "Float 3ff0000000000000 b, SetLocal 0 a"),
		inMain("$a v := $b #0000000000000000;", "Float 0 b, SetLocal 0 a"),
		inMain("$a v := $b #8000000000000000;", "Float 8000000000000000 b, SetLocal 0 a"),
		inMain("$a v := $b #7ff0000000000001;", "Float 7ff0000000000001 b, SetLocal 0 a"), // a signalling NaN keeps its bits
		inMain("$a v := $b #ffffffffffffffff;", "Float ffffffffffffffff b, SetLocal 0 a"),
		inMain("$a v := $b true;", "Bool 1 b, SetLocal 0 a"),
		inMain("$a v := $b false;", "Bool 0 b, SetLocal 0 a"),
		inMain("$a v := (($b 1));", "Int 1 b, SetLocal 0 a"),
	})
}

func TestPlacesAndLocals(t *testing.T) {
	checkRows(t, []row{
		inMain("$a v := $b x;", "Read 0 b, SetLocal 0 a"),
		inMain("$a v := $b f;", "Read 1 b, SetLocal 0 a"),
		inMain("$a v := $b b;", "Read 2 b, SetLocal 0 a"),
		inMain("$a v := $b 1; $c w := $d v; $g u := $h w + $i v;",
			"Int 1 b, SetLocal 0 a, Local 0 d, SetLocal 1 c, Local 1 h, Local 0 i, Binary 1 h, SetLocal 2 g"),
		inMain("$i1 if $b b { $a v := $c 1; } $i2 if $d b { $f v := $g true; }", // two locals of one name
			"Read 2 b, JumpIf 4 0 i1, Int 1 c, SetLocal 0 a, Read 2 d, JumpIf 8 0 i2, Bool 1 g, SetLocal 1 f"),
		{"func f(p int, q float, r bool) $f { $a v := $b p; $c w := $d q; $g u := $h r; } func main() $e { }",
			"Local 0 b, SetLocal 3 a, Local 1 d, SetLocal 4 c, Local 2 h, SetLocal 5 g, Return f, Return e"},
		inMain("$a v := $b a[$c 2];", "Int 2 c, ReadElem 3 3 b, SetLocal 0 a"),
		inMain("$a v := $b g[$c 0];", "Int 0 c, ReadElem 6 2 b, SetLocal 0 a"),
		inMain("$a v := $b h[$c x];", "Read 0 c, ReadElem 8 4 b, SetLocal 0 a"),
		inMain("$a v := $b h[$c a[$d x + $f a[$g 1]]];",
			"Read 0 d, Int 1 g, ReadElem 3 3 f, Binary 1 d, ReadElem 3 3 c, ReadElem 8 4 b, SetLocal 0 a"),
		inMain("$a v := $b a[$c 5];", "Int 5 c, ReadElem 3 3 b, SetLocal 0 a"), // that there is none is told when it runs
		{"var a[64] int; var b[64] bool; func main() $e { $a fail $b a[$c 0]; $d v := $f b[$g 0]; }",
			"Int 0 c, ReadElem 0 64 b, Fail a, Int 0 g, ReadElem 64 64 f, SetLocal 0 d, Return e"},
	})
}

func TestUnary(t *testing.T) {
	checkRows(t, []row{
		inMain("$a fail $b -$c 5;", "Int 5 c, Unary 1 b, Fail a"),
		inMain("$a v := $b !$c true;", "Bool 1 c, Unary 2 b, SetLocal 0 a"),
		inMain("$a v := $b int($c f);", "Read 1 c, Unary 3 b, SetLocal 0 a"),
		inMain("$a v := $b float($c x);", "Read 0 c, Unary 4 b, SetLocal 0 a"),
		inMain("$a v := $b -$c f;", "Read 1 c, Unary 1 b, SetLocal 0 a"),
		inMain("$a v := $b - $c -$d int($f -$g float($h 3));", "Int 3 h, Unary 4 g, Unary 1 f, Unary 3 d, Unary 1 c, Unary 1 b, SetLocal 0 a"),
		inMain("$a v := $b !$c !$d !$f b;", "Read 2 f, Unary 2 d, Unary 2 c, Unary 2 b, SetLocal 0 a"),
	})
}

// TestBinary: each operator's number, with each type that it takes, in order of the chapter's table.
func TestBinary(t *testing.T) {
	operands := map[string][]string{"i": {"x", "Read 0"}, "f": {"f", "Read 1"}, "b": {"b", "Read 2"}}
	types := strings.Fields("if if if if i ifb ifb if if if if")
	for i, op := range strings.Fields("+ - * / % == != < <= > >=") {
		for _, typ := range strings.Split(types[i], "") {
			name, read := operands[typ][0], operands[typ][1]
			checkRows(t, []row{inMain(
				fmt.Sprintf("$a v := $b %s %s $c %s;", name, op, name),
				fmt.Sprintf("%s b, %s c, Binary %d b, SetLocal 0 a", read, read, i+1))})
		}
	}
}

// TestOrderOfKids: kids come from the left, a node behind its kids; it stands where its first kid does.
func TestOrderOfKids(t *testing.T) {
	checkRows(t, []row{
		inMain("$a v := $b 1 - $c 2 - $d 3;", "Int 1 b, Int 2 c, Binary 2 b, Int 3 d, Binary 2 b, SetLocal 0 a"),
		inMain("$a v := $b 1 - ($c 2 - $d 3);", "Int 1 b, Int 2 c, Int 3 d, Binary 2 c, Binary 2 b, SetLocal 0 a"),
		inMain("$a v := $b 1 + $c 2 * $d 3;", "Int 1 b, Int 2 c, Int 3 d, Binary 3 c, Binary 1 b, SetLocal 0 a"),
		inMain("$a v := ($b 1 + $c 2) * $d 3;", "Int 1 b, Int 2 c, Binary 1 b, Int 3 d, Binary 3 b, SetLocal 0 a"),
		inMain("$a v := $b -$c 1 % $d 2 < $f a[$g 1] / $h x;",
			"Int 1 c, Unary 1 b, Int 2 d, Binary 5 b, Int 1 g, ReadElem 3 3 f, Read 0 h, Binary 4 f, Binary 8 b, SetLocal 0 a"),
		inMain("$a v := ($b f == $c g[$d 0]) != $f true;", "Read 1 b, Int 0 d, ReadElem 6 2 c, Binary 6 b, Bool 1 f, Binary 7 b, SetLocal 0 a"),
	})
}

// TestShort: && and || as their kids stand in one another.
func TestShort(t *testing.T) {
	checkRows(t, []row{
		inMain("$a v := $b true && $c false;", "Bool 1 b, Short 3 0 b, Bool 0 c, SetLocal 0 a"),
		inMain("$a v := $b true || $c false;", "Bool 1 b, Short 3 1 b, Bool 0 c, SetLocal 0 a"),
		inMain("$a v := $b b && $c h[$d x];", "Read 2 b, Short 4 0 b, Read 0 d, ReadElem 8 4 c, SetLocal 0 a"),
		inMain("$a v := $b h[$d x] || $c b;", "Read 0 d, ReadElem 8 4 b, Short 4 1 b, Read 2 c, SetLocal 0 a"),
		inMain("$a v := $b true && $c false && $d b;", "Bool 1 b, Short 3 0 b, Bool 0 c, Short 5 0 b, Read 2 d, SetLocal 0 a"),
		inMain("$a v := $b true && ($c false && $d b);", "Bool 1 b, Short 5 0 b, Bool 0 c, Short 5 0 c, Read 2 d, SetLocal 0 a"),
		inMain("$a v := $b true || $c false || $d b;", "Bool 1 b, Short 3 1 b, Bool 0 c, Short 5 1 b, Read 2 d, SetLocal 0 a"),
		inMain("$a v := $b true || ($c false || $d b);", "Bool 1 b, Short 5 1 b, Bool 0 c, Short 5 1 c, Read 2 d, SetLocal 0 a"),
		inMain("$a v := $b true || $c false && $d b;", "Bool 1 b, Short 5 1 b, Bool 0 c, Short 5 0 c, Read 2 d, SetLocal 0 a"),
		inMain("$a v := $b true && $c false || $d b;", "Bool 1 b, Short 3 0 b, Bool 0 c, Short 5 1 b, Read 2 d, SetLocal 0 a"),
		inMain("$a v := ($b true || $c false) && $d b;", "Bool 1 b, Short 3 1 b, Bool 0 c, Short 5 0 b, Read 2 d, SetLocal 0 a"),
		inMain("$a v := $b true && ($c false || $d b);", "Bool 1 b, Short 5 0 b, Bool 0 c, Short 5 1 c, Read 2 d, SetLocal 0 a"),
		inMain("$a v := ($b b && $c b) || ($d b && $f b);",
			"Read 2 b, Short 3 0 b, Read 2 c, Short 7 1 b, Read 2 d, Short 7 0 d, Read 2 f, SetLocal 0 a"),
		inMain("$a v := ($b b || $c b) && ($d b || $f b) && $g b;",
			"Read 2 b, Short 3 1 b, Read 2 c, Short 7 0 b, Read 2 d, Short 7 1 d, Read 2 f, Short 9 0 b, Read 2 g, SetLocal 0 a"),
	})
}

// TestShortWithin other operators, and others within it.
func TestShortWithin(t *testing.T) {
	checkRows(t, []row{
		inMain("$a v := $n !($b b && $c b) == ($d x < $f 1 || $g b);",
			"Read 2 b, Short 3 0 b, Read 2 c, Unary 2 n, Read 0 d, Int 1 f, Binary 8 d, Short 9 1 d, Read 2 g, Binary 6 n, SetLocal 0 a"),
		inMain("$a v := $b b != ($c b && $d b);", "Read 2 b, Read 2 c, Short 4 0 c, Read 2 d, Binary 7 b, SetLocal 0 a"),
		inMain("$a v := $b !($c b || $d b) && $f !$g b;", "Read 2 c, Short 3 1 c, Read 2 d, Unary 2 b, Short 7 0 b, Read 2 g, Unary 2 f, SetLocal 0 a"),
		inMain("$a v := $b x == $c 1 && $d f < $f g[$g x] && $h -$i 1 >= $j 0;",
			"Read 0 b, Int 1 c, Binary 6 b, Short 8 0 b, Read 1 d, Read 0 g, ReadElem 6 2 f, Binary 8 d, Short 13 0 b, Int 1 i, Unary 1 h, Int 0 j, Binary 11 h, SetLocal 0 a"),
	})
}

// TestShortEverywhere: in each place in which an expression that is a bool may stand.
func TestShortEverywhere(t *testing.T) {
	checkRows(t, []row{
		inMain("$a b = $b true && $c false;", "Bool 1 b, Short 3 0 b, Bool 0 c, Write 2 a"),
		inMain("$v v := $w true; $a v = $b v || $c false;", "Bool 1 w, SetLocal 0 v, Local 0 b, Short 5 1 b, Bool 0 c, SetLocal 0 a"),
		inMain("$a h[$i 3] = $b true && $c false;", "Int 3 i, Bool 1 b, Short 4 0 b, Bool 0 c, WriteElem 8 4 a"),
		inMain("$a send o, $b true || $c false;", "Bool 1 b, Short 3 1 b, Bool 0 c, Send 2 a"),
		inMain("$a if $b true && $c false { $d return; }", "Bool 1 b, Short 3 0 b, Bool 0 c, JumpIf 5 0 a, Return d"),
		inMain("$a if $b true || $c false { $d return; } else { $f lock n; }", "Bool 1 b, Short 3 1 b, Bool 0 c, JumpIf 6 0 a, Return d, Jump 7 a, Lock 1 f"),
		inMain("$a while $b true || $c false { $d return; }", "Turn a, Bool 1 b, Short 4 1 b, Bool 0 c, JumpIf 7 0 a, Return d, Jump 0 a"),
		{"func main() $e { $a g($b true && $c false, $d 1, $f true || $g false); $h go g($i true, $j 2, $k false && $l true); } func g(p bool, q int, r bool) $m { }",
			"Bool 1 b, Short 3 0 b, Bool 0 c, Int 1 d, Bool 1 f, Short 7 1 f, Bool 0 g, Call 1 a, Bool 1 i, Int 2 j, Bool 0 k, Short 13 0 k, Bool 1 l, Go 1 h, Return e, Return m"},
	})
}
