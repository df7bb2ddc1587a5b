package vm_test

import (
	"fmt"
	"slices"
	"strings"
	"testing"

	"stockade/api"
	"stockade/vm"
)

// The tests of P17.1 by tables: what comes and goes at each instruction, which event it does, where, and with which value.

func TestExample(t *testing.T) {
	checkRows(t, []row{{text: "main: Int 2, Int 0, $a Binary /, $w Write 0, Return", does: "FaultZero a"}})
}

// TestValues: what Int, Float and Bool put onto the stack, floats with their bits as they are.
func TestValues(t *testing.T) {
	checkTalks(t, []talk{
		{text: "main: Int 0, $a Write 0, $e Return", says: []string{"write 0 a i0", "end e"}},
		{text: "main: Int 7, $a Write 4, Int 9223372036854775807, $b Write 0, $e Return", says: []string{"write 4 a i7", "write 0 b i9223372036854775807", "end e"}},
		{text: "main: Bool 1, $a Write 8, Bool 0, $b Write 9, $e Return", says: []string{"write 8 a b1", "write 9 b b0", "end e"}},
		{text: "main: Float 0, $a Write 5, Float 8000000000000000, $b Write 5, Float 3ff0000000000000, $c Write 6, $e Return",
			says: []string{"write 5 a f0000000000000000", "write 5 b f8000000000000000", "write 6 c f3ff0000000000000", "end e"}},
		{text: "main: Float 7ff0000000000001, $a Write 5, Float fff8000000000123, $b Write 5, Float ffffffffffffffff, $c Write 5, $e Return",
			says: []string{"write 5 a f7ff0000000000001", "write 5 b ffff8000000000123", "write 5 c fffffffffffffffff", "end e"}},
		{text: "main: Int 1, Int 2, Int 3, $a Write 0, $b Write 1, $c Write 2, $e Return", says: []string{"write 0 a i3", "write 1 b i2", "write 2 c i1", "end e"}},
		{text: "main: Int 1, Bool 1, Float 5, $a Write 5, $b Write 8, $c Write 0, $e Return", says: []string{"write 5 a f0000000000000005", "write 8 b b1", "write 0 c i1", "end e"}},
	})
}

// TestLocals: parameters have the arguments' values, all others their types' zeros; SetLocal changes its own one.
func TestLocals(t *testing.T) {
	all := func(params, others string) (text string) {
		text = fmt.Sprintf("f %s+%s:", params, others)
		for i, letter := range params + others {
			text += fmt.Sprintf(" Local %d, Write %d,", i, map[rune]int{'i': 0, 'f': 5, 'b': 8}[letter])
		}
		return text + " $e Return; main: Return"
	}
	checkWrites := func(params, others, args, want string) {
		t.Helper()
		l := right(t, all(params, others))
		begin, _ := vm.Begin(l.Code)
		thread := begin(0, values(args))
		var got []string
		for range len(params + others) {
			w, _ := thread.Next(api.Value{})
			got = append(got, told(w.V))
		}
		if strings.Join(got, " ") != want {
			t.Errorf("%s of %s: %v, want %s", l.text, args, got, want)
		}
	}
	checkWrites("", "ifb", "", "i0 f0000000000000000 b0")
	checkWrites("", "bbffii", "", "b0 b0 f0000000000000000 f0000000000000000 i0 i0")
	checkWrites("ifb", "", "i5 f3ff0000000000000 b1", "i5 f3ff0000000000000 b1")
	checkWrites("bi", "ifb", "b1 i-9", "b1 i-9 i0 f0000000000000000 b0")
	checkWrites("iiii", "iiii", "i1 i2 i3 i4", "i1 i2 i3 i4 i0 i0 i0 i0")
	checkWrites("f", "f", "f7ff8000000000123", "f7ff8000000000123 f0000000000000000")
	checkWrites("bbbb", strings.Repeat("fbi", 9)+"i", "b0 b1 b1 b0", "b0 b1 b1 b0"+strings.Repeat(" f0000000000000000 b0 i0", 9)+" i0")
	checkTalks(t, []talk{
		{text: "main +ii: Int 5, SetLocal 1, Local 0, $a Write 0, Local 1, $b Write 0, Local 1, Local 1, $c Write 0, $d Write 1, $e Return",
			says: []string{"write 0 a i0", "write 0 b i5", "write 0 c i5", "write 1 d i5", "end e"}},
		{text: "f ib+f: Local 0, Int 1, SetLocal 0, Bool 0, SetLocal 1, $a Write 0, Local 0, $b Write 0, Local 1, $c Write 8, Float 1, SetLocal 2, Local 2, $d Write 5, $e Return; main: Return", args: "i8 b1",
			says: []string{"write 0 a i8", "write 0 b i1", "write 8 c b0", "write 5 d f0000000000000001", "end e"}},
		{text: "main +i: $a Read 0, SetLocal 0, Int 3, Local 0, $b Write 1, $c Write 2, Local 0, $d Write 3, $e Return", says: []string{"read 0 a", "i-4> write 1 b i-4", "write 2 c i3", "write 3 d i-4", "end e"}},
		// The last one of as many as there may be.
		{text: "main +" + strings.Repeat("i", 31) + "b: Bool 1, SetLocal 31, Local 31, $a Write 8, Local 30, $b Write 0, $e Return", says: []string{"write 8 a b1", "write 0 b i0", "end e"}},
	})
}

// TestPlaces: Read and Write, of places of each type.
func TestPlaces(t *testing.T) {
	checkTalks(t, []talk{
		{text: "main: $a Read 0, $b Write 1, $c Read 5, $d Write 7, $f Read 8, $g Write 10, $e Return",
			says: []string{"read 0 a", "i-5> write 1 b i-5", "read 5 c", "f8000000000000000> write 7 d f8000000000000000", "read 8 f", "b1> write 10 g b1", "end e"}},
		{text: "main: $a Read 1, $b Read 2, $c Write 3, $d Write 4, $e Return", says: []string{"read 1 a", "i1> read 2 b", "i2> write 3 c i2", "write 4 d i1", "end e"}},
	})
	checkRows(t, []row{
		{text: "main: Int 6, $a Write 3, $b Read 3, $c Fail", does: "write 3 a, read 3 b, FaultFail 6 c"},
		{text: "main: $b Read 3, $c Fail", does: "read 3 b, FaultFail 0 c"},
		{text: "main: Float 4014000000000000, $a Write 6, $b Read 6, $d Read 5, Binary +, Unary int, $c Fail", does: "write 6 a, read 6 b, read 5 d, FaultFail 5 c"},
		{text: "main: Bool 1, $a Write 9, $b Read 9, JumpIf $n 0, $d Read 8, JumpIf $n 1, Int 1, $c Fail, $n Return", does: "write 9 a, read 9 b, read 8 d, FaultFail 1 c"},
	})
}

// elements is arrays: the first place, how many there are; an instruction that gives a value of their type, that value, and some place of that type.
var elements = []struct {
	a, b       int
	push, made string
	other      int
}{
	{0, 5, "Int 9", "i9", 4}, {1, 3, "Int 9", "i9", 0}, {4, 1, "Int 9", "i9", 4}, {0, 1, "Int 9", "i9", 1},
	{5, 3, "Float 9", "f0000000000000009", 7}, {6, 1, "Float 9", "f0000000000000009", 5}, {8, 3, "Bool 1", "b1", 8}, {9, 2, "Bool 1", "b1", 8},
}

// TestElements: each index of arrays, and those below 0 and at their end and far behind: FaultIndex at the instruction, with N 0, once all that it takes has gone, whatever places stand behind.
func TestElements(t *testing.T) {
	for _, x := range elements {
		read := fmt.Sprintf("main: $i Read 0, $a ReadElem %d %d, $w Write %d, $e Return", x.a, x.b, x.other)
		write := fmt.Sprintf("main: Int 3, $i Read 0, %s, $a WriteElem %d %d, $w Write 0, $e Return", x.push, x.a, x.b)
		var talks []talk
		for index := range x.b {
			talks = append(talks,
				talk{text: read, says: []string{"read 0 i", fmt.Sprintf("i%d> read %d a", index, x.a+index), fmt.Sprintf("%s> write %d w %s", x.made, x.other, x.made), "end e"}},
				talk{text: write, says: []string{"read 0 i", fmt.Sprintf("i%d> write %d a %s", index, x.a+index, x.made), "write 0 w i3", "end e"}})
		}
		for _, index := range []int{-1, -2, -64, -1 << 63, x.b, x.b + 1, x.b + 2, 64, 128, 1<<63 - 1, 1<<63 - 2, 1 << 32, -x.a, -x.a - 1} {
			if index >= 0 && index < x.b {
				continue
			}
			says := []string{"read 0 i", fmt.Sprintf("i%d> FaultIndex a", index), "FaultIndex a"}
			talks = append(talks, talk{text: read, says: says}, talk{text: write, says: says})
		}
		checkTalks(t, talks)
	}
	checkRows(t, []row{
		{text: "main: Int 0, $a ReadElem 1 3, Int 0, Unary -, $b ReadElem 1 3, Int 2, $c ReadElem 1 3, Int 3, $d ReadElem 1 3, Fail", does: "read 1 a, read 1 b, read 3 c, FaultIndex d"},
		{text: "main: Int 0, Int 4, $a WriteElem 1 3, Int 2, Int 5, $b WriteElem 1 3, Int 3, Int 6, $c WriteElem 1 3, Return", does: "write 1 a, write 3 b, FaultIndex c"},
		{text: "main: Int 1, Unary -, Int 4, $c WriteElem 1 3, Return", does: "FaultIndex c"},
		{text: "main: Int 1, Unary -, $c ReadElem 1 3, Fail", does: "FaultIndex c"},
		{text: "main: Int 1, Int 7, $a WriteElem 1 3, $b Read 2, $c Fail", does: "write 2 a, read 2 b, FaultFail 7 c"},
		{text: "main: Int 7, $a Write 3, Int 2, $b ReadElem 1 3, $c Fail", does: "write 3 a, read 3 b, FaultFail 7 c"},
	})
}

// TestGreatArrays: as many elements as an array may have, at the end of as many places as there may be.
func TestGreatArrays(t *testing.T) {
	for index := -1; index <= 65; index++ {
		c := api.Code{Places: slices.Repeat(types("i"), api.MaxPlaces), Funcs: []api.Entry{{Params: 0}}}
		c.Body = []api.Instr{{Op: 1, A: max(index, 1)}, {Op: 10, A: 1}, {Op: 8, A: 64, B: 64, At: 9}, {Op: 26, At: 10}}
		want := "[] {3 2 0 0 9} <nil>" // of -1
		if index >= 0 {
			c.Body[0].A, c.Body[1] = index, api.Instr{Op: 24, At: 5}
			want = fmt.Sprintf("[{0 11 0 5} {0 1 %d 9}] {3 7 0 0 10} <nil>", 64+index)
			if index >= 64 {
				want = "[{0 11 0 5}] {3 2 0 0 9} <nil>"
			}
		}
		if got := fmt.Sprint(vm.Play(c, nil, 10)); got != want {
			t.Errorf("index %d: %s, want %s", index, got, want)
		}
	}
}

// TestUnary: each operator on values of each type that it takes.
func TestUnary(t *testing.T) {
	var talks []talk
	for _, x := range []struct {
		op       string
		from, to int    // places of the operand's type, and of the result's
		rows     string // values, and what becomes of each
	}{
		{"-", 0, 1, "i5>i-5 i-7>i7 i0>i0 i-9223372036854775808>i-9223372036854775808"},
		{"-", 5, 6, "f0000000000000000>f8000000000000000 f3ff0000000000000>fbff0000000000000 f7ff0000000000001>f7ff8000000000001 ffff8000000000001>f7ff8000000000001"},
		{"!", 8, 9, "b0>b1 b1>b0"},
		{"int", 5, 1, "fc004000000000000>i-2 f4004000000000000>i2 f43dfffffffffffff>i9223372036854774784 fc3e0000000000000>i-9223372036854775808 f43e0000000000000>FaultConv fc3e0000000000001>FaultConv f7ff8000000000001>FaultConv ffff0000000000000>FaultConv"},
		{"float", 0, 6, "i0>f0000000000000000 i-3>fc008000000000000 i9007199254740993>f4340000000000000 i9223372036854775807>f43e0000000000000"},
	} {
		for _, pair := range strings.Fields(x.rows) {
			given, made, _ := strings.Cut(pair, ">")
			says := []string{"read 4 z", fmt.Sprintf("i77> read %d r", x.from), fmt.Sprintf("%s> write %d w %s", given, x.to, made), "write 4 v i77", "end e"}
			if strings.HasPrefix(made, "Fault") {
				says = []string{says[0], says[1], given + "> " + made + " u", made + " u"}
			}
			talks = append(talks, talk{text: fmt.Sprintf("main: $z Read 4, $r Read %d, $u Unary %s, $w Write %d, $v Write 4, $e Return", x.from, x.op, x.to), says: says})
		}
	}
	checkTalks(t, talks)
}

// TestBinary: each operator on values of each type that it takes, the one beneath being the first.
func TestBinary(t *testing.T) {
	const one, two, half, nan, zero = "f3ff0000000000000", "f4000000000000000", "f3fe0000000000000", "f7ff8000000000001", "f0000000000000000"
	var talks []talk
	for _, x := range []struct {
		op                string
		first, second, to int    // places of the operands' types, and of the result's
		rows              string // two values, and what becomes of each two
	}{
		{"+", 1, 2, 3, "i5,i-7>i-2 i9223372036854775807,i1>i-9223372036854775808"}, {"-", 1, 2, 3, "i5,i7>i-2 i-9223372036854775808,i1>i9223372036854775807"}, {"*", 1, 2, 3, "i5,i-7>i-35 i4611686018427387904,i2>i-9223372036854775808"},
		{"/", 1, 2, 3, "i7,i2>i3 i-7,i2>i-3 i2,i7>i0 i-9223372036854775808,i-1>i-9223372036854775808 i7,i0>FaultZero i0,i0>FaultZero"},
		{"%", 1, 2, 3, "i7,i2>i1 i-7,i2>i-1 i2,i7>i2 i-9223372036854775808,i-1>i0 i7,i0>FaultZero i0,i0>FaultZero"},
		{"==", 1, 2, 8, "i5,i5>b1 i5,i6>b0 i6,i5>b0"}, {"!=", 1, 2, 8, "i5,i5>b0 i5,i6>b1 i6,i5>b1"}, {"<", 1, 2, 8, "i5,i5>b0 i5,i6>b1 i6,i5>b0"},
		{"<=", 1, 2, 8, "i5,i5>b1 i5,i6>b1 i6,i5>b0"}, {">", 1, 2, 8, "i5,i5>b0 i5,i6>b0 i6,i5>b1"}, {">=", 1, 2, 8, "i5,i5>b1 i5,i6>b0 i6,i5>b1"},
		{"+", 6, 7, 5, one + "," + one + ">" + two}, {"-", 6, 7, 5, two + "," + one + ">" + one + " " + one + "," + two + ">fbff0000000000000"}, {"*", 6, 7, 5, two + "," + half + ">" + one},
		{"/", 6, 7, 5, one + "," + two + ">" + half + " " + two + "," + one + ">" + two + " " + one + "," + zero + ">f7ff0000000000000 " + zero + "," + zero + ">" + nan + " ffff8000000000123," + one + ">" + nan},
		{"==", 6, 7, 8, one + "," + one + ">b1 " + nan + "," + nan + ">b0 " + zero + ",f8000000000000000>b1"}, {"!=", 6, 7, 8, one + "," + one + ">b0 " + nan + "," + nan + ">b1"},
		{"<", 6, 7, 8, one + "," + two + ">b1 " + two + "," + one + ">b0 " + one + "," + one + ">b0 " + nan + "," + one + ">b0"}, {"<=", 6, 7, 8, one + "," + two + ">b1 " + two + "," + one + ">b0 " + one + "," + one + ">b1 " + one + "," + nan + ">b0"},
		{">", 6, 7, 8, one + "," + two + ">b0 " + two + "," + one + ">b1 " + one + "," + one + ">b0 " + nan + "," + one + ">b0"}, {">=", 6, 7, 8, one + "," + two + ">b0 " + two + "," + one + ">b1 " + one + "," + one + ">b1 " + one + "," + nan + ">b0"},
		{"==", 9, 10, 8, "b0,b0>b1 b0,b1>b0 b1,b0>b0 b1,b1>b1"}, {"!=", 9, 10, 8, "b0,b0>b0 b0,b1>b1 b1,b0>b1 b1,b1>b0"},
	} {
		for _, pair := range strings.Fields(x.rows) {
			given, made, _ := strings.Cut(pair, ">")
			first, second, _ := strings.Cut(given, ",")
			says := []string{"read 4 z", fmt.Sprintf("i77> read %d r", x.first), fmt.Sprintf("%s> read %d s", first, x.second), fmt.Sprintf("%s> write %d w %s", second, x.to, made), "write 4 v i77", "end e"}
			if strings.HasPrefix(made, "Fault") {
				says = []string{says[0], says[1], says[2], second + "> " + made + " u", made + " u"}
			}
			talks = append(talks, talk{text: fmt.Sprintf("main: $z Read 4, $r Read %d, $s Read %d, $u Binary %s, $w Write %d, $v Write 4, $e Return", x.first, x.second, x.op, x.to), says: says})
		}
	}
	checkTalks(t, talks)
}

// TestOperatorFaults of codes' runs: at the operator, which doesn't stand where its operands do, behind all that was done.
func TestOperatorFaults(t *testing.T) {
	checkRows(t, []row{
		{text: "main: $r Read 0, $s Read 1, $a Binary /, Fail", does: "read 0 r, read 1 s, FaultZero a"},
		{text: "main: $r Read 0, $s Read 1, $a Binary %, Fail", does: "read 0 r, read 1 s, FaultZero a"},
		{text: "main: $r Read 5, $s Read 6, Binary /, $a Unary int, Fail", does: "read 5 r, read 6 s, FaultConv a"},
		{text: "main: Int 1, $r Read 0, $a Binary /, Int 2, Int 0, Binary /, Fail", does: "read 0 r, FaultZero a"},
		{text: "main: $b Go f, $c Turn, $e Return; f: $t Turn, Int 1, Int 0, $a Binary %, $w Write 0, $g Return", picks: []int{0, 0, 1}, does: "go 1 b, turn c, end e, 1: turn t, 1: FaultZero a"},
		{text: "main: $b Go f, $c Turn, $e Return; f: Int 1, Int 0, $a Binary %, $w Write 0, $g Return", does: "go 1 b, 1: FaultZero a"},
		{text: "main: $b Call f, Return; f: Int 1, Int 0, $a Binary %, $w Write 0, $g Return", does: "turn b, FaultZero a"},
	})
}

// TestFail: its N is the top, of whatever sign; what is beneath doesn't matter.
func TestFail(t *testing.T) {
	checkRows(t, []row{
		{text: "main: Int 0, $a Fail", does: "FaultFail 0 a"},
		{text: "main: Int 9223372036854775807, $a Fail", does: "FaultFail 9223372036854775807 a"},
		{text: "main: Int 5, Unary -, $a Fail", does: "FaultFail -5 a"},
		{text: "main: Bool 1, Int 3, Int 4, $a Fail, Return", does: "FaultFail 4 a"},
		{text: "main: $t Turn, Int 3, $a Fail", does: "turn t, FaultFail 3 a"},
		{text: "main: $t Call f, Return; f: $r Read 0, $a Fail", does: "turn t, read 0 r, FaultFail 0 a"},
		{text: "main: $b Go f, $c Turn, $e Return; f: $t Turn, Int 8, $a Fail", picks: []int{1}, does: "go 1 b, 1: turn t, 1: FaultFail 8 a"},
		{text: "main: $b Go f, $c Turn, $e Return; f: $t Turn, Int 8, $a Fail", does: "go 1 b, turn c, end e, 1: turn t, 1: FaultFail 8 a"},
	})
}
