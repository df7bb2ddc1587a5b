package vm_test

import (
	"fmt"
	"slices"
	"strings"
	"testing"

	"stockade/api"
	"stockade/vm"
)

// The tests of P17.1 on where a goroutine goes on: jumps, and what it does between two events.

func TestJump(t *testing.T) {
	checkTalks(t, []talk{
		{text: "main: Int 1, Int 2, Jump $x, Return, $x Write 0, $y Write 1, $e Return", says: []string{"write 0 x i2", "write 1 y i1", "end e"}},
		{text: "main: Jump $x, $x Turn, $e Return", says: []string{"turn x", "end e"}},
		{text: "main: Jump $x, $y Turn, Return, $x Jump $z, $z Jump $v, Fail, $v Lock 1, Jump $y, $e Int 3", says: []string{"lock 1 v", "turn y", "end e"}},
		{text: "main: $x Turn, $y Lock 0, Jump $x", says: []string{"turn x", "lock 0 y", "turn x", "lock 0 y", "turn x"}},
		{text: "main: Int 7, $x Turn, $y Write 0, Int 8, Jump $x", says: []string{"turn x", "write 0 y i7", "turn x", "write 0 y i8", "turn x", "write 0 y i8"}},
		// In functions that aren't the first one.
		{text: "g: Turn, Jump $r, $r Return; main: Jump $x, $z Turn, Return, $x Turn, $e Jump $z", says: []string{"turn x", "turn z", "end e"}},
	})
}

// checkJumps asks a listing, of which the B is left open, and whose event "read 8 r" gives the top, with each B and top: what it says where it goes on at A, and what it says where it goes on behind.
func checkJumps(t *testing.T, text string, far, near func(top string) []string) {
	t.Helper()
	for _, way := range []struct {
		b    int
		top  string
		says []string
	}{{0, "b0", far("b0")}, {0, "b1", near("b1")}, {1, "b0", near("b0")}, {1, "b1", far("b1")}} {
		says := append([]string{"read 8 r", way.top + "> " + way.says[0]}, way.says[1:]...)
		checkTalks(t, []talk{{text: fmt.Sprintf(text, way.b), says: says}})
	}
}

// always says the same, whatever the top is.
func always(says ...string) func(string) []string {
	return func(string) []string { return says }
}

// TestJumpIf: the top goes, wherever it goes on; what is beneath stays.
func TestJumpIf(t *testing.T) {
	far, near := always("write 1 x i7", "write 10 y b1", "end e"), always("write 0 a i7", "write 9 b b1", "end e")
	checkJumps(t, "main: Bool 1, Int 7, $r Read 8, JumpIf $x %d, $a Write 0, $b Write 9, Return, $x Write 1, $y Write 10, $e Return", far, near)
	checkJumps(t, "main: Bool 1, Int 7, $r Read 8, JumpIf $x %d, $x Write 1, $y Write 10, $e Return", far, far)
	checkJumps(t, "main: $r Read 8, JumpIf $x %d, Int 1, $a Fail, $x Int 2, $b Fail", always("FaultFail 2 b"), always("FaultFail 1 a"))
	checkTalks(t, []talk{
		{text: "main: $t Turn, $r Read 8, JumpIf $t 1, $e Return", says: []string{"turn t", "read 8 r", "b1> turn t", "read 8 r", "b1> turn t", "read 8 r", "b0> end e"}},
		{text: "main: $t Turn, $r Read 8, JumpIf $t 0, $e Return", says: []string{"turn t", "read 8 r", "b0> turn t", "read 8 r", "b1> end e"}},
	})
	checkRows(t, []row{
		{text: "main: Bool 1, JumpIf $x 1, Int 1, $a Fail, $x Int 2, $b Fail", does: "FaultFail 2 b"},
		{text: "main: Bool 1, JumpIf $x 0, Int 1, $a Fail, $x Int 2, $b Fail", does: "FaultFail 1 a"},
		{text: "main: Bool 0, JumpIf $x 1, Int 1, $a Fail, $x Int 2, $b Fail", does: "FaultFail 1 a"},
		{text: "main: Bool 0, JumpIf $x 0, Int 1, $a Fail, $x Int 2, $b Fail", does: "FaultFail 2 b"},
		{text: "main +i: $t Turn, Local 0, Int 1, Binary +, SetLocal 0, Local 0, Int 3, Binary <, JumpIf $t 1, Local 0, $f Fail", does: "turn t, turn t, turn t, FaultFail 3 f"},
	})
}

// TestShort: the top goes where it goes on behind, and stays where it goes on at A.
func TestShort(t *testing.T) {
	stays := func(says ...string) func(string) []string {
		return func(top string) []string { return append([]string{says[0] + " " + top}, says[1:]...) }
	}
	checkJumps(t, "main: Int 7, $r Read 8, Short $x %d, $a Write 0, Return, $x Write 9, $y Write 1, $e Return",
		stays("write 9 x", "write 1 y i7", "end e"), always("write 0 a i7", "end e"))
	// As && and || are: the second one comes in the first one's place.
	checkJumps(t, "main: Int 7, $r Read 8, Short $x %d, $s Lock 0, Bool 1, $x Write 9, $y Write 1, $e Return",
		stays("write 9 x", "write 1 y i7", "end e"), always("lock 0 s", "write 9 x b1", "write 1 y i7", "end e"))
	// With another bool beneath, that is the top behind.
	checkJumps(t, "main: Bool 0, $r Read 8, Short $x %d, JumpIf $y 0, $a Lock 0, $y Lock 1, Return, $x Write 8, $z Write 9, $e Return",
		stays("write 8 x", "write 9 z b0", "end e"), always("lock 1 y", "end e"))
	checkJumps(t, "main: Bool 1, $r Read 8, Short $x %d, JumpIf $y 0, $a Lock 0, $y Lock 1, Return, $x Write 8, $z Write 9, $e Return",
		stays("write 8 x", "write 9 z b1", "end e"), always("lock 0 a", "lock 1 y", "end e"))
	checkTalks(t, []talk{
		{text: "main: Bool 0, $t Turn, $w Write 10, $r Read 8, Short $t 1, $e Return", says: []string{"turn t", "write 10 w b0", "read 8 r", "b1> turn t", "write 10 w b1", "read 8 r", "b1> turn t", "write 10 w b1", "read 8 r", "b0> end e"}},
		{text: "main: Bool 1, $t Turn, $w Write 10, $r Read 8, Short $t 0, $e Return", says: []string{"turn t", "write 10 w b1", "read 8 r", "b0> turn t", "write 10 w b0", "read 8 r", "b1> end e"}},
		// From one to another.
		{text: "main: $r Read 8, Short $x 1, Bool 1, $x Short $y 1, $s Read 9, $y Write 10, $e Return", says: []string{"read 8 r", "b1> write 10 y b1", "end e"}},
		{text: "main: $r Read 8, Short $x 0, $q Read 7, Float 0, Binary <, $x Short $y 1, $s Read 9, $y Write 10, $e Return", says: []string{"read 8 r", "b0> read 9 s", "b1> write 10 y b1", "end e"}},
		{text: "main: $r Read 8, Short $x 0, $q Read 7, Float 0, Binary <, $x Short $y 1, $s Read 9, $y Write 10, $e Return", says: []string{"read 8 r", "b1> read 7 q", "fbff0000000000000> write 10 y b1", "end e"}},
	})
	checkRows(t, []row{
		{text: "main: Bool 1, Short $x 1, Bool 0, $x JumpIf $y 1, Int 1, $a Fail, $y Int 2, $b Fail", does: "FaultFail 2 b"},
		{text: "main: Bool 0, Short $x 1, Bool 0, $x JumpIf $y 1, Int 1, $a Fail, $y Int 2, $b Fail", does: "FaultFail 1 a"},
		{text: "main: Bool 1, Short $x 0, Bool 0, $x JumpIf $y 1, Int 1, $a Fail, $y Int 2, $b Fail", does: "FaultFail 1 a"},
		{text: "main: Bool 1, Short $x 0, Bool 1, $x JumpIf $y 1, Int 1, $a Fail, $y Int 2, $b Fail", does: "FaultFail 2 b"},
		{text: "main: Bool 0, Short $x 0, Bool 1, $x JumpIf $y 1, Int 1, $a Fail, $y Int 2, $b Fail", does: "FaultFail 1 a"},
	})
}

// TestFullStack: as many values on a stack as there may be, all of which come from it in order.
func TestFullStack(t *testing.T) {
	words, says := []string{}, []string{"turn t"}
	for i := range api.MaxStack {
		words = append(words, fmt.Sprint("Int ", i))
	}
	words = append(words, "$t Turn")
	for i := range api.MaxStack {
		words = append(words, fmt.Sprintf("$w%d Write 0", i))
		says = append(says, fmt.Sprintf("write 0 w%d i%d", i, api.MaxStack-1-i))
	}
	checkTalks(t, []talk{{text: "main: " + strings.Join(words, ", ") + ", $e Return", says: append(says, "end e")}})
}

// checkLong asks what a code of one function with a local int does, whose instructions stand at 1, and the last one at 9.
func checkLong(t *testing.T, want string, parts ...[]api.Instr) {
	t.Helper()
	c := api.Code{Funcs: []api.Entry{{Locals: types("i")}}, Body: slices.Concat(parts...)}
	for i := range c.Body {
		c.Body[i].At = 1
	}
	c.Body[len(c.Body)-1].At = 9
	if len(c.Body) > api.MaxCode || len(c.Body) < api.MaxCode-10 {
		t.Errorf("there are %d instructions", len(c.Body))
	}
	if got := fmt.Sprint(vm.Play(c, nil, 20)); got != want {
		t.Errorf("%s, want %s", got, want)
	}
	checkPlay(t, c, nil, 20)
}

// TestLongSilentParts: as many instructions as there may be between two events, ahead of the first one, and in each round of a loop.
func TestLongSilentParts(t *testing.T) {
	const most = api.MaxCode/4 - 2
	instrs := func(list ...api.Instr) []api.Instr { return list }
	one, plus, get, set, fail := api.Instr{Op: 1, A: 1}, api.Instr{Op: 11, A: 1}, api.Instr{Op: 4}, api.Instr{Op: 5}, api.Instr{Op: 26}
	turn, ret := instrs(api.Instr{Op: 24}), instrs(api.Instr{Op: 25})
	adds := slices.Repeat(instrs(get, one, plus, set), most)
	failed := fmt.Sprintf("[{0 11 0 1}] {3 7 0 %d 9} <nil>", most)
	checkLong(t, failed, turn, adds, instrs(get, fail))
	checkLong(t, failed, adds, turn, instrs(get, fail))
	checkLong(t, "[{0 12 0 9}] {1 0 0 0 0} <nil>", adds, ret)
	least, less, again := api.Instr{Op: 1, A: 3 * most}, api.Instr{Op: 11, A: 8}, api.Instr{Op: 13, A: 0, B: 1}
	checkLong(t, "[{0 11 0 1} {0 11 0 1} {0 11 0 1} {0 12 0 9}] {1 0 0 0 0} <nil>", turn, adds, instrs(get, least, less, again), ret)
	var jumps []api.Instr // each to the one behind
	for i := range api.MaxCode - 1 {
		jumps = append(jumps, api.Instr{Op: 12, A: i + 1})
	}
	checkLong(t, "[{0 12 0 9}] {1 0 0 0 0} <nil>", jumps, ret)
}

// TestSilentReturns: calls that all end between two events.
func TestSilentReturns(t *testing.T) {
	text, does := "main: $a Call f1, $w Turn, $e Return", "turn a"
	for i := 1; i < api.MaxCalls-1; i++ {
		text += fmt.Sprintf("; f%d: $c%d Call f%d, Bool 1, JumpIf $r%d 1, Turn, $r%d Return", i, i, i+1, i, i)
		does += fmt.Sprintf(", turn c%d", i)
	}
	text += fmt.Sprintf("; f%d: Return", api.MaxCalls-1)
	checkRows(t, []row{{text: text, does: does + ", turn w, end e, Finished"}})
}

// TestManyRounds: as many events as a run may do, and more.
func TestManyRounds(t *testing.T) {
	l := right(t, "main +i: $t Turn, Local 0, Int 1, Binary +, SetLocal 0, Jump $t")
	for _, fuel := range []int{api.MaxFuel, api.MaxFuel + 1000} {
		events, end, err := vm.Play(l.Code, nil, fuel)
		if len(events) != fuel || end != (api.End{Outcome: api.FuelOut}) || err != nil || events[fuel-1] != (api.Event{Kind: api.EvTurn, At: at(0)}) {
			t.Errorf("fuel %d: %d events, %v %v", fuel, len(events), end, err)
		}
	}
	l = right(t, "main +i: $t Turn, Local 0, Int 1, Binary +, SetLocal 0, Local 0, Int 60000, Binary <, JumpIf $t 1, Local 0, $f Fail")
	events, end, err := vm.Play(l.Code, nil, api.MaxFuel)
	if got := l.end(end); len(events) != 60000 || got != "FaultFail 60000 f" || err != nil {
		t.Errorf("%d events, %s %v", len(events), got, err)
	}
}
