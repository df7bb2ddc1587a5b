package vm_test

import (
	"fmt"
	"strings"
	"testing"

	"stockade/api"
)

// The tests of P17.1 on Call and Return, and on how goroutines end.

// TestCall: the arguments go; the EvTurn is ahead of the callee's first instruction; what is beneath is there again behind the call.
func TestCall(t *testing.T) {
	checkTalks(t, []talk{
		{text: "main: Int 5, $a Call g, $w Write 0, $e Return; g: $b Lock 0, $h Return", says: []string{"turn a", "lock 0 b", "write 0 w i5", "end e"}},
		{text: "main: Int 5, Int 6, Bool 1, Float 7, $a Call g, $w Write 1, $e Return; g ibf+i: Local 2, $b Write 5, Local 1, $c Write 8, Local 0, $d Write 0, Local 3, $f Write 2, $h Return",
			says: []string{"turn a", "write 5 b f0000000000000007", "write 8 c b1", "write 0 d i6", "write 2 f i0", "write 1 w i5", "end e"}},
		{text: "main: Int 1, Int 2, Int 3, Int 4, $a Call g, $e Return; g iiii: Local 0, $b Write 0, Local 1, $c Write 0, Local 2, $d Write 0, Local 3, $f Write 0, $h Return",
			says: []string{"turn a", "write 0 b i1", "write 0 c i2", "write 0 d i3", "write 0 f i4", "end e"}},
		// Locals and the stack are each call's own.
		{text: "main +i: Int 5, SetLocal 0, Bool 1, $a Call g, $b Call g, $v Write 8, Local 0, $w Write 0, $e Return; g +i: Local 0, $c Write 1, Int 9, SetLocal 0, Local 0, $d Write 2, $h Return",
			says: []string{"turn a", "write 1 c i0", "write 2 d i9", "turn b", "write 1 c i0", "write 2 d i9", "write 8 v b1", "write 0 w i5", "end e"}},
		// What an event gives comes to the call that did it, also where that is the first one of the callee or behind a Return.
		{text: "main: Int 5, $a Call g, $r Read 0, $w Write 1, $v Write 2, $e Return; g: $b Recv 2, $c Write 8, $h Return",
			says: []string{"turn a", "recv 2 b", "b1> write 8 c b1", "read 0 r", "i7> write 1 w i7", "write 2 v i5", "end e"}},
		{text: "main: $a Call g, $e Return; g: $b Call h, $r Get 1, $w Write 0, $c Return; h: $d Return", says: []string{"turn a", "turn b", "get 1 r", "i3> write 0 w i3", "end e"}},
		// A function without parameters, whose other locals no arguments are taken for.
		{text: "main: Int 5, $a Call g, $w Write 0, $e Return; g +ii: Local 0, $b Write 0, Local 1, $c Write 1, $h Return", says: []string{"turn a", "write 0 b i0", "write 1 c i0", "write 0 w i5", "end e"}},
	})
	checkRows(t, []row{
		{text: "main: $a Call g, $b Call g, $e Return; g: $h Return", does: "turn a, turn b, end e, Finished"},
		{text: "g: $h Return; main: $a Call g, $b Call g, $e Return", does: "turn a, turn b, end e, Finished"},
		{text: "main: $a Call g, $e Return; g: Int 3, $b Fail", does: "turn a, FaultFail 3 b"},
		{text: "main: Int 4, $a Call g, $f Fail; g: $h Return", does: "turn a, FaultFail 4 f"},
		{text: "main: $g Go w, $a Call w, $b Call w, $e Return; w: $t Turn, $h Return", picks: []int{1, 0}, does: "go 1 g, 1: turn t, turn a, 1: end h, turn t, turn b, turn t, end e, Finished"},
	})
}

// recursion is a function f that calls itself as often as its argument says, and then does an event; and a main.
func recursion(main string) string {
	return main + "; f i: Local 0, Int 0, Binary >, JumpIf $x 0, Local 0, Int 1, Binary -, $b Call f, $h Return, $x Turn, $i Return"
}

// TestCalls: just MaxCalls calls in one another, and one more; the goroutine's first function isn't counted, calls that have ended aren't either.
func TestCalls(t *testing.T) {
	const most = api.MaxCalls
	down := func(n int) string { return strings.Repeat("turn b, ", n) }
	of := func(g int, text string) string { return strings.ReplaceAll(text, "turn", fmt.Sprintf("%d: turn", g)) }
	checkRows(t, []row{
		{text: recursion(fmt.Sprintf("main: Int %d, $a Call f, $e Return", most-2)), does: "turn a, " + down(most-2) + "turn x, end e, Finished"},
		{text: recursion(fmt.Sprintf("main: Int %d, $a Call f, $e Return", most-1)), does: "turn a, " + down(most-1) + "turn x, end e, Finished"},
		{text: recursion(fmt.Sprintf("main: Int %d, $a Call f, $e Return", most)), does: "turn a, " + down(most-1) + "FaultCalls b"},
		{text: recursion(fmt.Sprintf("main: Int %d, $a Call f, $e Return", most+1)), does: "turn a, " + down(most-1) + "FaultCalls b"},
		{text: recursion(fmt.Sprintf("main: Int %d, $a Go f, $e Return", most)), does: "go 1 a, end e, " + of(1, down(most)+"turn x, ") + "1: end i, Finished"},
		{text: recursion(fmt.Sprintf("main: Int %d, $a Go f, $e Return", most+1)), does: "go 1 a, end e, " + of(1, down(most)) + "1: FaultCalls b"},
		{text: recursion(fmt.Sprintf("main: Int %d, $a Call f, Int %d, $c Call f, Int %d, $d Call f, $e Return", most-1, most-1, most)),
			does: "turn a, " + down(most-1) + "turn x, turn c, " + down(most-1) + "turn x, turn d, " + down(most-1) + "FaultCalls b"},
		{text: "main: $b Call main, $e Return", does: down(most) + "FaultCalls b"},
		{text: "main: $a Call g, $e Return; g: $b Call h, Return; h: $c Call g, Return", does: "turn a, " + strings.Repeat("turn b, turn c, ", most/2-1) + "turn b, FaultCalls c"},
		// Its arguments are got ahead of the fault, and go.
		{text: "main: Int 0, $a Call g, $e Return; g i: $r Read 0, $b Call g, Return", does: "turn a, " + strings.Repeat("read 0 r, turn b, ", most-1) + "read 0 r, FaultCalls b"},
		// Each goroutine counts its own.
		{text: recursion(fmt.Sprintf("main: Int %d, $g Go f, Int %d, $a Call f, $e Return", most, most-1)), picks: []int{1, 0},
			does: "go 1 g, 1: turn b, turn a, " + strings.Repeat("1: turn b, turn b, ", most-1) + "1: turn x, turn x, 1: end i, end e, Finished"},
	})
	for i := range api.MaxCalls + 1 { // calls that have ended
		l := right(t, recursion("main: "+strings.Repeat("Call g, ", i)+fmt.Sprintf("Int %d, Call f, Return; g: Return", most)))
		if events, end := checkPlay(t, l.Code, nil, 200); len(events) != i+most || l.end(end) != "FaultCalls b" {
			t.Error(i, l.run(events, end))
		}
	}
	// As many calls in one another as there may be, again and again.
	checkRows(t, []row{{text: recursion(fmt.Sprintf("main +i: $w Turn, Int %d, $a Call f, Local 0, Int 1, Binary +, SetLocal 0, Local 0, Int 5, Binary <, JumpIf $w 1, $e Return", most-1)),
		does: strings.Repeat("turn w, turn a, "+down(most-1)+"turn x, ", 5) + "end e, Finished"}})
}

// TestRecursion: locals and what lies on the stack is each call's own, whatever is beneath.
func TestRecursion(t *testing.T) {
	// f puts its n; 2 n lies on its stack while it calls itself, and n is kept in its other local.
	const text = "main: Int 2, $a Call f, $e Return; f i+i: Local 0, $p Put 0, Local 0, Int 2, Binary *, Local 0, Int 0, Binary ==, JumpIf $x 1, Local 0, SetLocal 1, Local 0, Int 1, Binary -, $b Call f, $x Put 1, Local 1, $q Add 0, $h Return"
	checkTalks(t, []talk{{text: strings.Replace(text, "main:", "g:", 1) + "; main: Return", args: "i2",
		says: []string{"put 0 p i2", "turn b", "put 0 p i1", "turn b", "put 0 p i0", "put 1 x i0", "add 0 q i0", "put 1 x i2", "add 0 q i1", "put 1 x i4", "add 0 q i2", "end h"}}})
	checkRows(t, []row{
		{text: text, does: "turn a, put 0 p, turn b, put 0 p, turn b, put 0 p, put 1 x, add 0 q, put 1 x, add 0 q, put 1 x, add 0 q, end e, Finished"},
		{text: "main: $r Read 0, Int 3, Binary <, JumpIf $x 0, $s Read 0, Int 1, Binary +, $w Write 0, $a Call main, $x Turn, $e Return",
			does: "read 0 r, read 0 s, write 0 w, turn a, read 0 r, read 0 s, write 0 w, turn a, read 0 r, read 0 s, write 0 w, turn a, read 0 r, turn x, turn x, turn x, turn x, end e, Finished"},
	})
}

// TestReturn: an inner call's is silent; of a goroutine's first one it is EvEnd at the At of that function's last instruction, through whichever Return it is come to and whatever the last instruction is.
func TestReturn(t *testing.T) {
	checkRows(t, []row{
		{text: "main: $e Return", does: "end e, Finished"},
		{text: "main: $a Return, $e Return", does: "end e, Finished"},
		{text: "main: $a Return, $b Turn, $c Return, $e Return; g: $h Return", does: "end e, Finished"},
		{text: "g: $h Return; main: $a Return, $e Return; f: $i Return", does: "end e, Finished"},
		{text: "main: $a Return, Int 1, $e Fail", does: "end e, Finished"},
		{text: "main: Jump $a, $b Turn, $a Return, Int 1, Int 2, $e Int 3; g: $h Return", does: "end e, Finished"},
		{text: "main: Bool 1, JumpIf $a 1, $b Turn, $a Return, $t Turn, $e Jump $t", does: "end e, Finished"},
		{text: "main: Bool 0, JumpIf $a 1, $b Return, $a Turn, $e Jump $a", does: "end e, Finished"},
		{text: "main: $c Call g, $d Return, $e Return; g: Bool 0, JumpIf $x 1, $a Return, $x Turn, $h Return", does: "turn c, end e, Finished"},
		{text: "main: $c Go g, $d Return, $e Return; g: Bool 0, JumpIf $x 1, $a Return, $x Turn, $h Return", does: "go 1 c, end e, 1: end h, Finished"},
		{text: "main: $c Go g, $d Return, $e Return; g: Bool 1, JumpIf $x 1, $a Return, $x Turn, $h Return", does: "go 1 c, end e, 1: turn x, 1: end h, Finished"},
		// The goroutine's first function, not the one in which the last Return stands; which isn't an end where that function is called.
		{text: "main: $a Call g, $e Return; g: $b Call h, $c Return; h: $d Return", does: "turn a, turn b, end e, Finished"},
		{text: "main: $r Read 8, JumpIf $x 1, Bool 1, $w Write 8, $a Call main, $t Turn, $x Return, $e Return", does: "read 8 r, write 8 w, turn a, read 8 r, turn t, end e, Finished"},
		{text: "main: $a Go g, $b Call g, $e Return; g: $r Read 8, JumpIf $x 1, Bool 1, $w Write 8, $c Call g, $d Lock 0, $x Return, $h Turn", picks: []int{0, 0, 0, 0, 0, 0, 0, 1},
			does: "go 1 a, turn b, read 8 r, write 8 w, turn c, read 8 r, lock 0 d, end e, 1: read 8 r, 1: end h, Finished"},
	})
	checkTalks(t, []talk{
		{text: "main: $a Return; f ib: Local 1, JumpIf $x 0, $b Return, $x Turn, $c Return, $e Turn; g: $d Return", args: "i1 b1", says: []string{"end e", "end e", "end e"}},
		{text: "main: $a Return; f ib: Local 1, JumpIf $x 0, $b Return, $x Turn, $c Return, $e Turn; g: $d Return", args: "i1 b0", says: []string{"turn x", "end e", "i5> end e"}},
	})
}
