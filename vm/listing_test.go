package vm_test

import (
	"fmt"
	"slices"
	"strconv"
	"strings"
	"testing"

	"stockade/act"
	"stockade/api"
	"stockade/code"
	"stockade/proofread"
	"stockade/vm"
)

// What the tests write codes and runs in.

var opNames = strings.Fields("Int Float Bool Local SetLocal Read Write ReadElem WriteElem Unary Binary Jump JumpIf Short Lock Unlock Send Recv Get Put Add Go Call Turn Return Fail")

// operators is those of Unary and of Binary, by their numbers.
var operators = map[string][]string{
	"Unary":  {"", "-", "!", "int", "float"},
	"Binary": {"", "+", "-", "*", "/", "%", "==", "!=", "<", "<=", ">", ">="},
}

const letters = " ifb"

// types is the types of letters: "ifb" is an int, a float and a bool.
func types(text string) []int {
	var list []int
	for _, letter := range text {
		list = append(list, strings.IndexRune(letters, letter))
	}
	return list
}

// A listing is a code that was written as a text: functions, apart by ";", each of a name, its parameters' types, "+" and its other locals' types, ":" and its instructions, apart by ",". "$a " ahead of an instruction marks it: another one's "$a" is its place. The function main begins.
type listing struct {
	api.Code
	text  string
	names []string       // of the functions
	marks map[string]int // the places of marked instructions
}

// at is the byte of the instruction at a place: no two have the same one, and none has its place.
func at(place int) int {
	return 500 + 7*place
}

// listed reads a listing. There are the places of five ints, three floats and three bools, in this order, two mutexes, two atomics, and channels of an int without room, of a float with room for one, of a bool with room for eight and of an int with room for two.
func listed(text string) listing {
	l := listing{text: text, marks: map[string]int{}}
	l.Places, l.Mutexes, l.Atomics = types("iiiiifffbbb"), 2, 2
	l.Chans = []api.Chan{{Type: api.TInt}, {Type: api.TFloat, Room: 1}, {Type: api.TBool, Room: 8}, {Type: api.TInt, Room: 2}}
	var all [][]string
	for _, function := range strings.Split(text, ";") {
		head, body, _ := strings.Cut(function, ":")
		name, locals, _ := strings.Cut(strings.TrimSpace(head), " ")
		params, others, _ := strings.Cut(locals, "+")
		if name == "main" {
			l.Main = len(l.Funcs)
		}
		l.names = append(l.names, name)
		l.Funcs = append(l.Funcs, api.Entry{Start: len(all), Params: len(params), Locals: types(params + others)})
		for _, in := range strings.Split(body, ",") {
			words := strings.Fields(in)
			if mark, ok := strings.CutPrefix(words[0], "$"); ok {
				l.marks[mark] = len(all)
				words = words[1:]
			}
			all = append(all, words)
		}
	}
	for place, words := range all {
		in := l.instr(words)
		in.At = at(place)
		l.Body = append(l.Body, in)
	}
	return l
}

func (l listing) instr(words []string) api.Instr {
	in := api.Instr{Op: slices.Index(opNames, words[0]) + 1}
	if words[0] == "Float" {
		in.Bits, _ = strconv.ParseUint(words[1], 16, 64)
		return in
	}
	for i, word := range words[1:] {
		*[]*int{&in.A, &in.B}[i] = l.operand(words[0], word)
	}
	return in
}

func (l listing) operand(op, word string) int {
	if mark, ok := strings.CutPrefix(word, "$"); ok {
		place, ok := l.marks[mark]
		if !ok {
			panic(l.text + ": no " + word)
		}
		return place
	}
	if list := operators[op]; list != nil {
		return slices.Index(list, word)
	}
	if op == "Go" || op == "Call" {
		return slices.Index(l.names, word)
	}
	n, err := strconv.Atoi(word)
	if err != nil {
		panic(l.text + ": " + word)
	}
	return n
}

// byte is the mark of the instruction at a byte, or its number.
func (l listing) byte(n int) string {
	for mark, place := range l.marks {
		if at(place) == n {
			return mark
		}
	}
	return fmt.Sprint("byte ", n)
}

// told is a value as a text: i5, f3ff0000000000000, b1; "" of Type 0.
func told(v api.Value) string {
	if v == (api.Value{}) {
		return ""
	}
	if v.Type == api.TFloat && v.N == 0 {
		return fmt.Sprintf("f%016x", v.Bits)
	}
	if v.Type < 1 || v.Type > 3 || v.Bits != 0 {
		return fmt.Sprint(v)
	}
	return fmt.Sprintf("%c%d", letters[v.Type], v.N)
}

// untold is the value of a text.
func untold(text string) api.Value {
	if text == "" {
		return api.Value{}
	}
	v := api.Value{Type: strings.IndexByte(letters, text[0])}
	var err error
	if v.Type == api.TFloat {
		v.Bits, err = strconv.ParseUint(text[1:], 16, 64)
	} else {
		v.N, err = strconv.Atoi(text[1:])
	}
	if err != nil || v.Type < 1 {
		panic(text)
	}
	return v
}

// values is the values of a text.
func values(text string) []api.Value {
	var list []api.Value
	for _, word := range strings.Fields(text) {
		list = append(list, untold(word))
	}
	return list
}

var kindNames = strings.Fields("none read write lock unlock send recv get put add go turn end")

var faultNames = strings.Fields("none FaultZero FaultIndex FaultConv FaultUnlock FaultGo FaultCalls FaultFail")

// what tells an event or a wait: "write 3 a", a turn's and an end's object only if it isn't 0.
func (l listing) what(kind, obj, at int) string {
	if kind < 0 || kind >= len(kindNames) {
		return fmt.Sprint("kind ", kind)
	}
	text := kindNames[kind]
	if kind < api.EvTurn || obj != 0 {
		text += fmt.Sprint(" ", obj)
	}
	return text + " " + l.byte(at)
}

// wait tells what a thread waits for: its event, its value, its arguments.
func (l listing) wait(w act.Wait) string {
	words := []string{l.what(w.Kind, w.Obj, w.At)}
	if text := told(w.V); text != "" {
		words = append(words, text)
	}
	for _, v := range w.Args {
		words = append(words, told(v))
	}
	return strings.Join(words, " ")
}

// fault tells a fault, its N only if it isn't 0.
func (l listing) fault(fault, n, at int) string {
	text := fmt.Sprint("fault ", fault)
	if fault > 0 && fault < len(faultNames) {
		text = faultNames[fault]
	}
	if n != 0 || fault == api.FaultFail {
		text += fmt.Sprint(" ", n)
	}
	return text + " " + l.byte(at)
}

func goroutine(g int) string {
	if g == 0 {
		return ""
	}
	return fmt.Sprint(g, ": ")
}

func (l listing) end(end api.End) string {
	if end.Outcome == api.Faulted {
		return goroutine(end.G) + l.fault(end.Fault, end.N, end.At)
	}
	for i, text := range []string{"Running", "Finished", "Deadlock", "", "FuelOut"} {
		if (end == api.End{Outcome: i}) {
			return text
		}
	}
	return fmt.Sprint(end)
}

// run tells a run's events and its end.
func (l listing) run(events []api.Event, end api.End) string {
	var list []string
	for _, e := range events {
		list = append(list, goroutine(e.G)+l.what(e.Kind, e.Obj, e.At))
	}
	return strings.Join(append(list, l.end(end)), ", ")
}

// right asks that a listing is a right code.
func right(t *testing.T, text string) listing {
	t.Helper()
	l := listed(text)
	if code.Check(l.Code) != nil {
		t.Fatalf("%s isn't in form: %v", text, l.Code)
	}
	if proofread.Check(l.Code) != nil {
		t.Fatalf("%s isn't right: %v", text, l.Code)
	}
	return l
}

// A row is a listing and what it does, by picks, its end being the last word. It is asked of the model, too, so that both are held against what is written here.
type row struct {
	text, does string
	picks      []int
}

func checkRows(t *testing.T, rows []row) {
	t.Helper()
	for _, r := range rows {
		l := right(t, r.text)
		for name, play := range map[string]func(api.Code, []int, int) ([]api.Event, api.End, error){"vm": vm.Play, "model": modelPlay} {
			events, end, err := play(l.Code, r.picks, 400)
			if got := l.run(events, end); got != r.does || err != nil {
				t.Errorf("%s, picks %v (%s)\n got %s %v\nwant %s", r.text, r.picks, name, got, err, r.does)
			}
		}
		checkFuels(t, l.Code, r.picks, 40)
	}
}

// A talk is a listing, arguments of its function f (of main, if there is no f), and what a thread of that tells: "read 0 a", or "i5> write 1 b i6", if it is given a value first.
type talk struct {
	text, args string
	says       []string
}

func checkTalks(t *testing.T, talks []talk) {
	t.Helper()
	for _, k := range talks {
		l := right(t, k.text)
		fn := slices.Index(l.names, "f")
		if fn < 0 {
			fn = l.Main
		}
		begin, err := vm.Begin(l.Code)
		if err != nil {
			t.Errorf("%s: %v", k.text, err)
			continue
		}
		model, stop := modelBegin(l.Code)
		for name, b := range map[string]act.Begin{"vm": begin, "model": model} {
			thread := b(fn, values(k.args))
			if thread == nil {
				t.Errorf("%s (%s): no thread of %q", k.text, name, k.args)
				continue
			}
			for i, say := range k.says {
				given, want, ok := strings.Cut(say, "> ")
				if !ok {
					given, want = "", say
				}
				if got := l.answer(thread.Next(untold(given))); got != want {
					t.Errorf("%s (%s)\nsays %s at %d, want %s", k.text, name, got, i, want)
					break
				}
			}
		}
		stop()
	}
}

// answer tells what Next answers: a wait or a halt, and all else beside it, if that isn't zero.
func (l listing) answer(w act.Wait, h act.Halt) string {
	if h.Fault == 0 && h == (act.Halt{}) {
		return l.wait(w)
	}
	text := l.fault(h.Fault, h.N, h.At)
	if fmt.Sprint(w) != fmt.Sprint(act.Wait{}) {
		text += " beside " + fmt.Sprint(w)
	}
	return text
}

// many is how often something is tried.
func many(n int) int {
	if testing.Short() {
		return n / 10
	}
	return n
}
