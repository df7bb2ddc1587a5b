package vm_test

import (
	"fmt"
	"math/rand"
	"slices"
	"testing"

	"stockade/act"
	"stockade/api"
	"stockade/value"
	"stockade/vm"
)

// The tests of P17.1 on what is handed in and what is answered: nothing is changed, kept or shared.

// roomy is a copy of a code whose lists have elements behind them that are none of the code's.
func roomy(c api.Code) api.Code {
	c = apart(c)
	c.Places = append(c.Places, 77, 78)[:len(c.Places)]
	c.Chans = append(c.Chans, api.Chan{Type: 77}, api.Chan{Room: 78})[:len(c.Chans)]
	for i, f := range c.Funcs {
		c.Funcs[i].Locals = append(f.Locals, 1, 2)[:len(f.Locals)]
	}
	c.Funcs = append(c.Funcs, api.Entry{Start: 77, Locals: []int{1}}, api.Entry{Start: 78})[:len(c.Funcs)]
	c.Body = append(c.Body, api.Instr{Op: 25}, api.Instr{A: 78})[:len(c.Body)]
	return c
}

// whole tells a code with all that stands in its lists' spare room.
func whole(c api.Code) string {
	text := fmt.Sprint(c, c.Places[:cap(c.Places)], c.Chans[:cap(c.Chans)], c.Funcs[:cap(c.Funcs)], c.Body[:cap(c.Body)])
	for _, f := range c.Funcs[:cap(c.Funcs)] {
		text += fmt.Sprint(f.Locals[:cap(f.Locals)])
	}
	return text
}

// spoil changes everything that a code's lists hold.
func spoil(c api.Code) {
	for i := range c.Funcs {
		clear(c.Funcs[i].Locals)
	}
	clear(c.Places)
	clear(c.Chans)
	clear(c.Funcs)
	for i := range c.Body {
		c.Body[i] = api.Instr{Op: 24}
	}
}

// TestNothingIsChanged: neither the code nor the picks, be the code right or not.
func TestNothingIsChanged(t *testing.T) {
	r := rand.New(rand.NewSource(175))
	for range many(2000) {
		c := roomy(changed(r, randomCode(r)))
		picks := append(append(make([]int, 0, 20), randomPicks(r)...), 7, 8)
		list := picks[:len(picks)-2]
		before, picksBefore := whole(c), fmt.Sprint(picks)
		vm.Play(c, list, 150)
		if run, err := vm.Start(c); err == nil {
			run.Play(act.Listed(list), 150)
		}
		if b, err := vm.Begin(c); err == nil {
			thread := b(0, zeros(c.Funcs[0]))
			for range 10 {
				thread.Next(api.Value{})
			}
		}
		if whole(c) != before || fmt.Sprint(picks) != picksBefore {
			t.Fatalf("now it is %s, %v, and it was %s, %s", whole(c), picks, before, picksBefore)
		}
	}
}

// TestRunsKeepNothing: a run goes on as it does by itself, whatever becomes of the code that it was started with.
func TestRunsKeepNothing(t *testing.T) {
	r := rand.New(rand.NewSource(176))
	for range many(1000) {
		c := randomCode(r)
		picks := randomPicks(r)
		events, end := checkPlay(t, c, picks, 150)
		spoilt := roomy(c)
		run, err := vm.Start(spoilt)
		if err != nil {
			t.Fatal(err)
		}
		next := act.Listed(picks)
		run.Play(next, r.Intn(30))
		spoil(spoilt)
		if got := run.Play(next, 150); got != end || !slices.Equal(run.Events(), events) {
			t.Fatalf("%v\n got %v %v\nwant %v %v", c, got, run.Events(), end, events)
		}
	}
}

// TestThreadsKeepNothing: threads go on, whatever becomes of the code, of the arguments, and of what they told.
func TestThreadsKeepNothing(t *testing.T) {
	r := rand.New(rand.NewSource(177))
	for range many(1000) {
		c := randomCode(r)
		spoilt := roomy(c)
		b, err := vm.Begin(spoilt)
		if err != nil {
			t.Fatal(err)
		}
		spoil(spoilt)
		for fn, f := range c.Funcs {
			args := append(zeros(f), values("i77 b1")...)[:f.Params]
			before := fmt.Sprint(args[:cap(args)])
			thread := b(fn, args)
			if fmt.Sprint(args[:cap(args)]) != before {
				t.Fatalf("the arguments are %v, and were %s", args[:cap(args)], before)
			}
			clear(args)
			model, stop := modelBegin(c)
			other := model(fn, zeros(f))
			in := api.Value{}
			for range 30 {
				w, h := thread.Next(in)
				v, i := other.Next(in)
				in = given(r, c, v)
				if fmt.Sprint(w, h) != fmt.Sprint(v, i) {
					t.Fatalf("%v: %v %v, want %v %v", c, w, h, v, i)
				}
				clear(w.Args[:cap(w.Args)]) // what was told is the asker's
			}
			stop()
		}
	}
}

// given is some value that a wait's event may give.
func given(r *rand.Rand, c api.Code, w act.Wait) api.Value {
	typ := 0
	switch w.Kind {
	case api.EvRead:
		typ = c.Places[w.Obj]
	case api.EvRecv:
		typ = c.Chans[w.Obj].Type
	case api.EvGet:
		typ = api.TInt
	}
	return []api.Value{{}, value.Int(r.Intn(6) - 2), value.Float(float64(r.Intn(6) - 2)), value.Bool(r.Intn(2) == 0)}[typ]
}

// TestArgumentsAreTheAskers: what is done with the arguments that a Go told changes neither the stack nor the locals, and nothing that comes behind changes them.
func TestArgumentsAreTheAskers(t *testing.T) {
	l := right(t, "f i: Int 5, Int 6, Local 0, $a Go g, $b Write 0, Local 0, $c Write 1, Int 7, Int 8, $d Go g, Int 9, Int 10, $f Write 2, $h Write 3, $e Return; g ii: Return; main: Return")
	begin, err := vm.Begin(l.Code)
	if err != nil {
		t.Fatal(err)
	}
	says := []string{"go 1 a i6 i3", "write 0 b i5", "write 1 c i3", "go 1 d i7 i8", "write 2 f i10", "write 3 h i9", "end e"}
	first, second := begin(0, values("i3")), begin(0, values("i3"))
	var waits []act.Wait
	for _, want := range says {
		w, h := first.Next(api.Value{})
		if got := l.answer(w, h); got != want {
			t.Errorf("%s, want %s", got, want)
		}
		for i := range w.Args[:cap(w.Args)] {
			w.Args[:cap(w.Args)][i] = untold("b1")
		}
		w, _ = second.Next(api.Value{})
		waits = append(waits, w)
	}
	for i, want := range says {
		if got := l.wait(waits[i]); got != want {
			t.Errorf("later it is %s, and was %s", got, want)
		}
	}
}

// TestRunsInTurns: runs of one code, in turns: each does what it does by itself.
func TestRunsInTurns(t *testing.T) {
	r := rand.New(rand.NewSource(178))
	for range many(1000) {
		c := randomCode(r)
		var runs [3]*act.Run
		var picks [3][]int
		var listed [3]func(int) int
		for i := range runs {
			run, err := vm.Start(c)
			if err != nil {
				t.Fatal(err)
			}
			runs[i], picks[i] = run, randomPicks(r)
			listed[i] = act.Listed(picks[i])
		}
		for range 150 {
			i := r.Intn(3)
			runs[i].Play(listed[i], runs[i].Count()+1)
		}
		for i, run := range runs {
			if events, _ := checkPlay(t, c, picks[i], run.Count()); !slices.Equal(run.Events(), events) {
				t.Fatalf("%v, picks %v\n got %v\nwant %v", c, picks[i], run.Events(), events)
			}
		}
	}
}

// TestOneBegin: its threads are all apart, those of one function too.
func TestOneBegin(t *testing.T) {
	l := right(t, "f i+i: $t Turn, Local 1, Local 0, Binary +, SetLocal 1, Local 1, $w Write 0, Jump $t; main: Return")
	begin, err := vm.Begin(l.Code)
	if err != nil {
		t.Fatal(err)
	}
	first, second := begin(0, values("i1")), begin(0, values("i10"))
	for i := range 20 {
		first.Next(api.Value{})
		w, _ := first.Next(api.Value{})
		second.Next(api.Value{})
		v, _ := second.Next(api.Value{})
		if got, want := l.wait(w)+", "+l.wait(v), fmt.Sprintf("write 0 w i%d, write 0 w i%d", i+1, 10*(i+1)); got != want {
			t.Errorf("%s, want %s", got, want)
		}
	}
}

// TestOwnEvents: what one call answers isn't changed by what is done with it, or by later calls.
func TestOwnEvents(t *testing.T) {
	l := right(t, rich)
	first, _, _ := vm.Play(l.Code, nil, 50)
	second, _, _ := vm.Play(l.Code, nil, 50)
	kept := slices.Clone(second)
	clear(first[:cap(first)])
	if third, _, _ := vm.Play(l.Code, nil, 50); len(kept) == 0 || !slices.Equal(second, kept) || !slices.Equal(third, kept) {
		t.Error(second, third, kept)
	}
}

// TestNilAndEmptyLists mean the same.
func TestNilAndEmptyLists(t *testing.T) {
	full := api.Code{Places: []int{}, Chans: []api.Chan{}, Funcs: []api.Entry{{Locals: []int{}}}, Body: []api.Instr{{Op: 24, At: 3}, {Op: 25, At: 4}}}
	bare := api.Code{Funcs: []api.Entry{{}}, Body: full.Body}
	for _, c := range []api.Code{full, bare} {
		for _, picks := range [][]int{nil, {}} {
			if got := fmt.Sprint(vm.Play(c, picks, 5)); got != "[{0 11 0 3} {0 12 0 4}] {1 0 0 0 0} <nil>" {
				t.Error(got)
			}
		}
		b, err := vm.Begin(c)
		if err != nil || b(0, nil) == nil || b(0, []api.Value{}) == nil {
			t.Error("no thread without arguments", err)
		}
	}
}
