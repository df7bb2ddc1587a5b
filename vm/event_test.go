package vm_test

import (
	"fmt"
	"strings"
	"testing"

	"stockade/api"
	"stockade/vm"
)

// The tests of P17.1 on what goroutines do with one another: mutexes, channels, atomics, Go, and picks.

// TestObjects: the event of each instruction, with its object and value, and what comes of it.
func TestObjects(t *testing.T) {
	checkTalks(t, []talk{
		{text: "main: Int 5, $a Lock 0, $b Lock 1, $c Unlock 1, $d Unlock 0, $w Write 0, $e Return", says: []string{"lock 0 a", "lock 1 b", "unlock 1 c", "unlock 0 d", "write 0 w i5", "end e"}},
		{text: "main: Int 5, $a Turn, $w Write 0, $b Turn, $e Return", says: []string{"turn a", "write 0 w i5", "turn b", "end e"}},
		{text: "main: Int 5, Int 6, $a Send 0, $b Send 3, $e Return", says: []string{"send 0 a i6", "send 3 b i5", "end e"}},
		{text: "main: Bool 1, Float 8, $a Send 1, $b Send 2, $e Return", says: []string{"send 1 a f0000000000000008", "send 2 b b1", "end e"}},
		{text: "main: Int 5, $a Recv 0, $b Write 0, $c Write 1, $e Return", says: []string{"recv 0 a", "i7> write 0 b i7", "write 1 c i5", "end e"}},
		{text: "main: $a Recv 1, $b Recv 2, $c Recv 3, $d Write 0, $f Write 8, $g Write 5, $e Return",
			says: []string{"recv 1 a", "f8000000000000000> recv 2 b", "b1> recv 3 c", "i-1> write 0 d i-1", "write 8 f b1", "write 5 g f8000000000000000", "end e"}},
		{text: "main: Int 5, $a Get 0, $b Get 1, $c Put 0, $d Put 1, $f Put 0, $e Return", says: []string{"get 0 a", "i8> get 1 b", "i9> put 0 c i9", "put 1 d i8", "put 0 f i5", "end e"}},
		{text: "main: Int 5, Unary -, Int 6, $a Add 1, $b Add 0, $e Return", says: []string{"add 1 a i6", "add 0 b i-5", "end e"}},
	})
	checkRows(t, []row{
		{text: "main: Int 5, $a Put 1, Int 9, $b Add 1, Int 3, Unary -, $c Add 0, $d Get 1, $f Get 0, Binary *, $g Fail", does: "put 1 a, add 1 b, add 0 c, get 1 d, get 0 f, FaultFail -42 g"},
		{text: "main: Int 9223372036854775807, $a Put 0, Int 1, $b Add 0, $c Get 0, $g Fail", does: "put 0 a, add 0 b, get 0 c, FaultFail -9223372036854775808 g"},
		{text: "main: Int 5, $a Send 3, Int 6, $b Send 3, $c Recv 3, Int 10, Binary *, $d Recv 3, Binary +, $f Fail", does: "send 3 a, send 3 b, recv 3 c, recv 3 d, FaultFail 56 f"},
		{text: "main: Float 4000000000000000, $a Send 1, $c Recv 1, Unary int, $d Fail", does: "send 1 a, recv 1 c, FaultFail 2 d"},
		{text: "main: $a Lock 0, $b Lock 1, $c Unlock 0, $d Lock 0, $e Return", does: "lock 0 a, lock 1 b, unlock 0 c, lock 0 d, end e, Finished"},
	})
}

// A step is a listing, goroutines that do their events in turn, and then what all of them wait for and, if the run hasn't ended, who can run: "read 0 a | ended: 0".
type step struct {
	text string
	do   []int
	want string
}

func checkSteppedTo(t *testing.T, rows []step) {
	t.Helper()
	for _, x := range rows {
		l := right(t, x.text)
		run, err := vm.Start(l.Code)
		if err != nil {
			t.Fatal(err)
		}
		for _, g := range x.do {
			if err := run.Do(g); err != nil {
				t.Errorf("%s: Do(%d): %v, behind %v", x.text, g, err, run.Events())
			}
		}
		var list []string
		for _, w := range run.Waits() {
			if w.Kind == 0 {
				list = append(list, "ended")
				continue
			}
			list = append(list, l.wait(w))
		}
		state := l.end(run.End())
		if run.End().Outcome == api.Running {
			state = strings.Trim(fmt.Sprint(run.Runnable()), "[]")
		}
		if got := strings.Join(list, " | ") + ": " + state; got != x.want {
			t.Errorf("%s behind %v\n got %s\nwant %s", x.text, x.do, got, x.want)
		}
	}
}

// TestMutexes: Lock, where the goroutine can run and where it must wait; Unlock, that faults where it isn't locked.
func TestMutexes(t *testing.T) {
	const two = "main: $g Go f, $a Lock 1, $b Turn, $c Unlock 1, $e Return; f: $h Lock 1, $i Unlock 1, $j Return"
	checkSteppedTo(t, []step{
		{two, nil, "go 1 g: 0"}, // of function 1
		{two, []int{0}, "lock 1 a | lock 1 h: 0 1"},
		{two, []int{0, 0}, "turn b | lock 1 h: 0"},
		{two, []int{0, 0, 0}, "unlock 1 c | lock 1 h: 0"},
		{two, []int{0, 0, 0, 0}, "end e | lock 1 h: 0 1"},
		{two, []int{0, 1}, "lock 1 a | unlock 1 i: 1"},
		{two, []int{0, 1, 1}, "lock 1 a | end j: 0 1"},
		{two, []int{0, 1, 1, 1}, "lock 1 a | ended: 0"},
		{two, []int{0, 1, 1, 1, 0, 0, 0, 0}, "ended | ended: Finished"},
		{"main: $a Lock 0, $b Lock 0, Return", []int{0}, "lock 0 b: Deadlock"},
		{"main: $a Lock 0, $b Lock 1, $e Return", []int{0}, "lock 1 b: 0"},
		{"main: $a Unlock 1, Return", nil, "unlock 1 a: 0"},
		{"main: $a Unlock 1, Return", []int{0}, "unlock 1 a: FaultUnlock a"},
		{"main: $a Lock 1, $b Unlock 0, Return", []int{0, 0}, "unlock 0 b: FaultUnlock b"},
		{"main: $a Lock 1, $b Unlock 1, $c Unlock 1, Return", []int{0, 0, 0}, "unlock 1 c: FaultUnlock c"},
	})
}

// TestChannels: Send and Recv, where the goroutine can run and where it must wait.
func TestChannels(t *testing.T) {
	const recvs = "main: $g Go f, $a Recv 0, $b Fail; f: $t Turn, Int 7, $s Send 0, $j Return"
	const sends = "main: $g Go f, Int 7, $s Send 0, $e Return; f: $t Turn, $r Recv 0, $w Write 0, $j Return"
	const rooms = "main: $g Go f, Float 0, $a Send 1, Float 1, $b Send 1, $e Return; f: $r Recv 1, $w Write 5, $j Return"
	full := "main: "
	for i := range api.MaxRoom + 1 {
		full += fmt.Sprintf("Bool 1, $s%d Send 2, ", i)
	}
	checkSteppedTo(t, []step{
		{recvs, []int{0}, "recv 0 a | turn t: 1"},
		{recvs, []int{0, 1}, "recv 0 a | send 0 s i7: 1"},
		{recvs, []int{0, 1, 1}, "recv 0 a | end j: FaultFail 7 b"},
		{sends, []int{0}, "send 0 s i7 | turn t: 1"},
		{sends, []int{0, 1}, "send 0 s i7 | recv 0 r: 0"},
		{sends, []int{0, 1, 0}, "end e | write 0 w i7: 0 1"},
		{"main: Int 7, $s Send 0, Return", nil, "send 0 s i7: Deadlock"},
		{"main: Int 7, $s Send 3, Return", nil, "send 3 s i7: 0"},
		{"main: $s Recv 0, Fail", nil, "recv 0 s: Deadlock"},
		{"main: $s Recv 3, Fail", nil, "recv 3 s: Deadlock"},
		{rooms, []int{0}, "send 1 a f0000000000000000 | recv 1 r: 0"},
		{rooms, []int{0, 0}, "send 1 b f0000000000000001 | recv 1 r: 1"},
		{rooms, []int{0, 0, 1}, "send 1 b f0000000000000001 | write 5 w f0000000000000000: 0 1"},
		{rooms, []int{0, 0, 1, 0, 0, 1, 1}, "ended | ended: Finished"},
		{full + "Return", []int{0, 0, 0, 0, 0, 0, 0}, "send 2 s7 b1: 0"},
		{full + "Return", []int{0, 0, 0, 0, 0, 0, 0, 0}, "send 2 s8 b1: Deadlock"},
	})
}

// TestNeverWaiting: all other events can be done whatever others do.
func TestNeverWaiting(t *testing.T) {
	const text = "main: $g Go f, Int 4, $a Put 0, $b Get 0, $c Add 1, $d Turn, $h Read 0, $i Write 1, $e Return; f: $t Turn, $j Return"
	checkSteppedTo(t, []step{
		{text, nil, "go 1 g: 0"},
		{text, []int{0}, "put 0 a i4 | turn t: 0 1"},
		{text, []int{0, 0}, "get 0 b | turn t: 0 1"},
		{text, []int{0, 0, 0}, "add 1 c i4 | turn t: 0 1"},
		{text, []int{0, 0, 0, 0}, "turn d | turn t: 0 1"},
		{text, []int{0, 0, 0, 0, 0}, "read 0 h | turn t: 0 1"},
		{text, []int{0, 0, 0, 0, 0, 0}, "write 1 i i0 | turn t: 0 1"},
		{text, []int{0, 0, 0, 0, 0, 0, 0}, "end e | turn t: 0 1"},
		{text, []int{0, 0, 0, 0, 0, 0, 0, 1}, "end e | end j: 0 1"},
		{text, []int{0, 0, 0, 0, 0, 0, 0, 1, 0}, "ended | end j: 1"},
	})
}

// TestGo: arguments of each type, which go; the new goroutine's parameters have their values, and its other locals are zeros.
func TestGo(t *testing.T) {
	const g = "; g fbii+i: Local 2, Local 3, Int 10, Binary *, Binary +, Local 4, Binary +, $h Fail"
	checkTalks(t, []talk{
		{text: "main: Int 5, $a Go main, $w Write 0, $e Return", says: []string{"go 0 a", "write 0 w i5", "end e"}},
		{text: "main: Int 5, Float 7, Bool 1, Int 8, Int 9, $a Go g, $w Write 0, $e Return" + g, says: []string{"go 1 a f0000000000000007 b1 i8 i9", "write 0 w i5", "end e"}},
		{text: "main: Bool 0, Int 3, Int 4, $a Go g, $b Go g, $c Go h, $e Return; g i: Return; h b: Return", says: []string{"go 1 a i4", "go 1 b i3", "go 2 c b0", "end e"}},
		{text: "h b: Return; main: Float 1, $a Go g, $e Return; g f: Return", says: []string{"go 2 a f0000000000000001", "end e"}},
	})
	checkRows(t, []row{
		{text: "main: Float 7, Bool 1, Int 8, Int 9, $a Go g, $e Return" + g, does: "go 1 a, 1: FaultFail 98 h"},
		{text: "main: $a Go main, $e Return", does: "go 1 a, end e, 1: go 2 a, 1: end e, 2: go 3 a, 2: end e, 3: go 4 a, 3: end e, 4: go 5 a, 4: end e, 5: go 6 a, 5: end e, 6: go 7 a, 6: end e, 7: FaultGo a"},
		{text: "h b: $h Return; main: Bool 1, $a Go h, Float 1, $b Go g, $e Return; g f: $g Return", does: "go 1 a, go 2 b, end e, 1: end h, 2: end g, Finished"},
		// What the caller does with its locals and its stack later isn't the new goroutine's.
		{text: "main +i: Int 5, SetLocal 0, Local 0, $a Go g, Int 6, SetLocal 0, Int 7, $b Write 0, $e Return; g i: $t Turn, Local 0, $h Fail", does: "go 1 a, write 0 b, end e, 1: turn t, 1: FaultFail 5 h"},
	})
}

// TestTooManyGoroutines: as many as there may be, and one more; those that have ended are counted.
func TestTooManyGoroutines(t *testing.T) {
	text, does, ends := "main: ", "", ""
	for i := 1; i < api.MaxGo; i++ {
		text += fmt.Sprintf("Bool 0, $a%d Go f, ", i)
		does += fmt.Sprintf("go %d a%d, ", i, i)
		ends += fmt.Sprintf("%d: end g, ", i)
	}
	checkRows(t, []row{
		{text: text + "$e Return; f b: $g Return", does: does + "end e, " + ends + "Finished"},
		{text: text + "Bool 1, $z Go f, $e Return; f b: $g Return", does: does + "FaultGo z"},
		{text: "main: $a Go f, $e Return; f: $b Go f, $g Return",
			does: "go 1 a, end e, 1: go 2 b, 1: end g, 2: go 3 b, 2: end g, 3: go 4 b, 3: end g, 4: go 5 b, 4: end g, 5: go 6 b, 5: end g, 6: go 7 b, 6: end g, 7: FaultGo b"},
	})
}

// TestPicks: who does its event is the pick's; one that waits for others can't be picked.
func TestPicks(t *testing.T) {
	const race = "main: $a Go w, Int 1, $b Write 0, $e Return; w: Int 2, $c Write 0, $f Return"
	const held = "main: $a Go w, $b Lock 0, Int 1, $c Write 0, $d Unlock 0, $e Return; w: $g Lock 0, Int 2, $h Write 0, $i Unlock 0, $f Return"
	const meet = "main: Int 1, $a Go w, Int 2, $b Go w, $c Recv 0, $d Fail; w i: Local 0, $s Send 0, $f Return"
	checkRows(t, []row{
		{text: race, does: "go 1 a, write 0 b, end e, 1: write 0 c, 1: end f, Finished"},
		{text: race, picks: []int{1}, does: "go 1 a, 1: write 0 c, 1: end f, write 0 b, end e, Finished"},
		{text: race, picks: []int{1, 0}, does: "go 1 a, 1: write 0 c, write 0 b, 1: end f, end e, Finished"},
		{text: race, picks: []int{-3, 3}, does: "go 1 a, write 0 b, 1: write 0 c, end e, 1: end f, Finished"},
		{text: held, does: "go 1 a, lock 0 b, write 0 c, unlock 0 d, end e, 1: lock 0 g, 1: write 0 h, 1: unlock 0 i, 1: end f, Finished"},
		{text: held, picks: []int{1}, does: "go 1 a, 1: lock 0 g, 1: write 0 h, 1: unlock 0 i, 1: end f, lock 0 b, write 0 c, unlock 0 d, end e, Finished"},
		{text: meet, does: "go 1 a, go 2 b, 1: send 0 s, recv 0 c, FaultFail 1 d"},
		{text: meet, picks: []int{0, 1}, does: "go 1 a, go 2 b, 1: send 0 s, recv 0 c, FaultFail 1 d"},
		{text: meet, picks: []int{1}, does: "go 1 a, go 2 b, 2: send 0 s, recv 0 c, FaultFail 2 d"},
	})
}

// TestAllPicks plays short codes by all short lists of picks, so that goroutines meet in every order.
func TestAllPicks(t *testing.T) {
	for _, text := range []string{
		"main: Go w, Read 0, Int 2, Binary +, Write 0, Read 0, Fail; w: Read 0, Int 1, Binary +, Write 0, Return",
		"main +i: Int 1, Go w, Int 2, Go w, Lock 0, Read 0, Int 10, Binary *, Write 0, Unlock 0, Turn, Read 0, Fail; w i: Lock 0, Read 0, Int 10, Binary *, Local 0, Binary +, Write 0, Unlock 0, Return",
		"main: Go w, Lock 0, Lock 1, Unlock 1, Unlock 0, Return; w: Lock 1, Lock 0, Unlock 0, Unlock 1, Return",
		"main: Int 1, Go w, Int 2, Go w, Recv 0, Send 3, Recv 0, Send 3, Return; w i: Local 0, Send 0, Recv 3, Int 10, Binary *, Local 0, Binary +, Fail",
		"main: Go w, Go w, Recv 2, Recv 2, JumpIf $x 1, Turn, $x JumpIf $y 1, Turn, $y Get 0, Fail; w: Get 0, Int 1, Binary +, Put 0, Bool 1, Send 2, Return",
		"main: Int 2, Go f, Int 2, Call f, Read 0, Fail; f i: Local 0, Int 0, Binary >, JumpIf $x 0, Read 0, Local 0, Binary +, Write 0, Local 0, Int 1, Binary -, Call f, $x Return",
	} {
		l := right(t, text)
		ends := map[api.End]int{}
		for n := range 1 << 12 { // each list of six picks, of two bits each
			var picks []int
			for i := range 6 {
				picks = append(picks, n>>(2*i)&3)
			}
			_, end := checkPlay(t, l.Code, picks, 60)
			ends[end]++
		}
		if len(ends) < 2 {
			t.Errorf("%s: all picks end alike: %v", text, ends)
		}
	}
}
