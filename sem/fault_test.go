package sem_test

import (
	"fmt"
	"strings"
	"testing"

	"stockade/api"
)

// The tests of P13.1 on faults: which one, of which goroutine, with which N, at which byte, and what was done ahead of it.

// TestIndex below 0 and behind the last, of every kind of use; the array isn't the last one, so that there are places behind it.
func TestIndex(t *testing.T) {
	const vars = "var y int; var a[3] int; var b[3] int; chan c[1] int; atomic k; "
	for _, index := range []string{"-1", "3", "4", "6", "9223372036854775807", "-9223372036854775807 - 1", "-9223372036854775807"} {
		checkRows(t, []row{
			{text: vars + "func main() { fail $a a[" + index + "]; }", does: "FaultIndex a"},
			{text: vars + "func main() { fail $c y + $a a[$b y + " + index + "] + 1 / 0; }", does: "read 0 c, read 0 b, FaultIndex a"},
			{text: vars + "func main() { v := $a a[" + index + "]; }", does: "FaultIndex a"},
			{text: vars + "func main() { $a a[" + index + "] = 1; }", does: "FaultIndex a"},
			{text: vars + "func main() { $a a[$b y + " + index + "] = $c y; }", does: "read 0 b, read 0 c, FaultIndex a"},
			{text: vars + "func main() { a[" + index + "] = $c 1 / 0; }", does: "FaultZero c"},
			{text: vars + "func main() { a[" + index + "] = $c a[" + index + "]; }", does: "FaultIndex c"},
			{text: vars + "func main() { a[$c a[" + index + "]] = 1 / 0; }", does: "FaultIndex c"},
			{text: vars + "func main() { $s send c, 1; $r recv c, $a a[$b y + " + index + "]; }", does: "send 0 s, read 0 b, recv 0 r, FaultIndex a"},
			{text: vars + "func main() { recv c, a[" + index + "]; }", does: "Deadlock"},
			{text: vars + "func main() { $r get k, $a a[$b y + " + index + "]; }", does: "read 0 b, get 0 r, FaultIndex a"},
			{text: vars + "func main() { if $a a[" + index + "] == 1 { } }", does: "FaultIndex a"},
		})
	}
	for index, place := range []int{1, 2, 3} {
		checkRows(t, []row{
			{text: vars + fmt.Sprintf("func main() $e { $a a[%d] = 1; $b fail $c a[%d]; }", index, index), does: fmt.Sprintf("write %d a, read %d c, FaultFail 1 b", place, place)},
			{text: vars + fmt.Sprintf("func main() $e { $a b[%d] = 1; $b fail $c b[%d]; }", index, index), does: fmt.Sprintf("write %d a, read %d c, FaultFail 1 b", place+3, place+3)},
		})
	}
	checkRows(t, []row{
		{text: "var a[1] int; func main() $e { $a a[0] = 1; $b a[1] = 1; }", does: "write 0 a, FaultIndex b"},
		{text: "var a[64] int; var b[64] int; func main() $e { $a a[63] = 1; $b a[64] = 1; }", does: "write 63 a, FaultIndex b"},
		{text: "var a[64] int; var b[64] int; func main() $e { $a b[63] = 1; $b b[64] = 1; }", does: "write 127 a, FaultIndex b"},
	})
}

// TestOperatorFaults: at the operator's node, behind all that its kids do.
func TestOperatorFaults(t *testing.T) {
	checkRows(t, []row{
		{text: "func main() { v := $a 1 / 0; }", does: "FaultZero a"},
		{text: "func main() { v := $a 1 % 0; }", does: "FaultZero a"},
		{text: "func main() { v := 1 + ($a 1 / 0); }", does: "FaultZero a"},
		{text: "func main() { v := 1 + -($a 1 % 0) / 0; }", does: "FaultZero a"},
		{text: "func main() { v := $a 7 / (1 - 1); }", does: "FaultZero a"},
		{text: "var x int; func main() { v := $a x / $b x; }", does: "read 0 a, read 0 b, FaultZero a"},
		{text: "var x int; func main() { v := 1; fail v - $a v % $b x; }", does: "read 0 b, FaultZero a"},
		{text: "func main() { v := $a int(#7ff8000000000001); }", does: "FaultConv a"},
		{text: "func main() { v := $a int(#7ff0000000000000); }", does: "FaultConv a"},
		{text: "func main() { v := $a int(#43e0000000000000); }", does: "FaultConv a"},
		{text: "func main() { $a fail int(#c3e0000000000000); }", does: "FaultFail -9223372036854775808 a"},
		{text: "var x float; func main() { v := 1 - $a int($b x / $c x); }", does: "read 0 b, read 0 c, FaultConv a"},
		{text: "var a[2] int; func main() { a[$a 1 / 0] = 1; }", does: "FaultZero a"},
		{text: "chan c[1] int; func main() { send c, $a 1 / 0; }", does: "FaultZero a"},
		{text: "var a[2] int; chan c[1] int; func main() { recv c, a[$a 1 / 0]; }", does: "FaultZero a"},
		{text: "var a[2] int; atomic k; func main() { get k, a[$a 1 / 0]; }", does: "FaultZero a"},
		{text: "atomic k; func main() { add k, $a 1 / 0; }", does: "FaultZero a"},
		{text: "atomic k; func main() { put k, $a 1 / 0; }", does: "FaultZero a"},
		{text: "func main() { fail $a 1 / 0; }", does: "FaultZero a"},
		{text: "func f(p int, q int) { } func main() { f($a 1 / 0, 1 % 0); }", does: "FaultZero a"},
		{text: "func f(p int, q int) { } func main() { go f(1, $a 1 % 0); }", does: "FaultZero a"},
		{text: "func main() { if $a 1 / 0 == 1 { } }", does: "FaultZero a"},
		{text: "func main() { $w while $a 1 / 0 == 1 { } }", does: "turn w, FaultZero a"},
	})
}

func TestFail(t *testing.T) {
	checkRows(t, []row{
		{text: "func main() { $a fail -5; fail 6; }", does: "FaultFail -5 a"},
		{text: "var x int; func main() { $b x = 3; $a fail $c x * 2; }", does: "write 0 b, read 0 c, FaultFail 6 a"},
		{text: "func f() { $a fail 1; } func main() { $b f(); }", does: "turn b, FaultFail 1 a"},
		{text: "func w() { $a fail 1; } func main() { $b go w(); $c fail 2; }", does: "go 1 b, FaultFail 2 c"},
		{text: "func w() { $a fail 1; } func main() $e { $b go w(); }", does: "go 1 b, 1: FaultFail 1 a"},
		{text: "var x int; func w() { $d x = 1; $a fail 1; } func main() $e { $b go w(); $c x = 2; }", picks: []int{1}, does: "go 1 b, 1: write 0 d, 1: FaultFail 1 a"},
		{text: "chan c[0] int; func w() { $d send c, 4; $a fail 1; } func main() $e { v := 0; $b go w(); $c recv c, v; fail 2; }", does: "go 1 b, 1: send 0 d, recv 0 c, 1: FaultFail 1 a"},
	})
}

// TestCalls: just MaxCalls calls in one another, and one more; the goroutine's first function isn't counted, calls that have ended aren't either.
func TestCalls(t *testing.T) {
	turns := func(n int) string { return strings.Repeat("turn b, ", n) }
	const f = "func f(d int) $g { if d > 0 { $b f(d - 1); } } "
	const most = api.MaxCalls
	checkRows(t, []row{
		{text: f + fmt.Sprintf("func main() $e { $a f(%d); }", most-1), does: "turn a, " + turns(most-1) + "end e, Finished"},
		{text: f + fmt.Sprintf("func main() $e { $a f(%d); }", most), does: "turn a, " + turns(most-1) + "FaultCalls b"},
		{text: f + fmt.Sprintf("func main() $e { $a f(%d); }", most+1), does: "turn a, " + turns(most-1) + "FaultCalls b"},
		{text: f + fmt.Sprintf("func main() $e { $a go f(%d); }", most), does: "go 1 a, end e, " + strings.ReplaceAll(turns(most), "turn", "1: turn") + "1: end g, Finished"},
		{text: f + fmt.Sprintf("func main() $e { $a go f(%d); }", most+1), does: "go 1 a, end e, " + strings.ReplaceAll(turns(most), "turn", "1: turn") + "1: FaultCalls b"},
		{text: f + fmt.Sprintf("func main() $e { $a f(%d); $c f(%d); $d f(%d); }", most-1, most-1, most), does: "turn a, " + turns(most-1) + "turn c, " + turns(most-1) + "turn d, " + turns(most-1) + "FaultCalls b"},
		{text: "func main() { $b main(); }", does: turns(most) + "FaultCalls b"},
		{text: "func f() { $b g(); } func g() { $c f(); } func main() { $a f(); }", does: "turn a, " + strings.Repeat("turn b, turn c, ", most/2-1) + "turn b, FaultCalls c"},
		// The arguments are evaluated ahead of the fault.
		{text: "var x int; func f(d int) { $b f($c x); } func main() { $a f(0); }", does: "turn a, " + strings.Repeat("read 0 c, turn b, ", most-1) + "read 0 c, FaultCalls b"},
		{text: fmt.Sprintf("func f(d int) { $b f(d + 1 + 0 * (10 / (%d - d))); } func main() { $a f(1); }", most+1), does: "turn a, " + turns(most-1) + "FaultCalls b"},
		{text: fmt.Sprintf("func f(d int) { $b f(d + 1 + 0 * ($c 10 / (%d - d))); } func main() { $a f(1); }", most), does: "turn a, " + turns(most-1) + "FaultZero c"},
		// A return gives its call back, in the middle of loops and branches, too.
		{text: "func f() { $w while true { if true { return; } } } func main() $e { v := 0; $x while v < 20 { v = v + 1; $b f(); } }", does: strings.Repeat("turn x, turn b, turn w, ", 20) + "turn x, end e, Finished"},
		// Each goroutine counts its own.
		{text: fmt.Sprintf("mutex m; func w(d int) $g { if d > 0 { $b w(d - 1); return; } $c lock m; } func main() $e { $a lock m; $d go w(%d); $h w(%d); }", most, most-1), picks: []int{1, 0},
			does: "lock 0 a, go 1 d, " + strings.Repeat("1: turn b, turn h, ", 1) + strings.Repeat("1: turn b, turn b, ", most-1) + "Deadlock"},
	})
}

func TestUnlock(t *testing.T) {
	checkRows(t, []row{
		{text: "mutex m; func main() { $a unlock m; }", does: "FaultUnlock a"},
		{text: "mutex n; mutex m; func main() { $a lock m; $b unlock m; $c unlock m; }", does: "lock 1 a, unlock 1 b, FaultUnlock c"},
		{text: "mutex n; mutex m; func main() { $a lock m; $b unlock n; }", does: "lock 1 a, FaultUnlock b"},
		{text: "mutex m; func w() $f { $a unlock m; $b unlock m; } func main() $e { $c lock m; $d go w(); }", does: "lock 0 c, go 1 d, end e, 1: unlock 0 a, 1: FaultUnlock b"},
	})
}

// TestGo: as many goroutines as there may be, and one more.
func TestGo(t *testing.T) {
	var text, does string
	for i := 1; i < api.MaxGo; i++ {
		text += fmt.Sprintf("$a%d go w(); ", i)
		does += fmt.Sprintf("go %d a%d, ", i, i)
	}
	ends := ""
	for i := 1; i < api.MaxGo; i++ {
		ends += fmt.Sprintf("%d: end f, ", i)
	}
	checkRows(t, []row{
		{text: "func w() $f { } func main() $e { " + text + "}", does: does + "end e, " + ends + "Finished"},
		{text: "func w() $f { } func main() $e { " + text + "$z go w(); }", does: does + "FaultGo z"},
		{text: "var x int; func w(n int) $f { } func main() $e { " + strings.ReplaceAll(text, "w()", "w(1)") + "$z go w($y x); }", does: does + "read 0 y, FaultGo z"},
		{text: "func w() $f { $z go w(); } func main() $e { $a go w(); }", does: "go 1 a, end e, 1: go 2 z, 1: end f, 2: go 3 z, 2: end f, 3: go 4 z, 3: end f, 4: go 5 z, 4: end f, 5: go 6 z, 5: end f, 6: go 7 z, 6: end f, 7: FaultGo z"},
	})
}
