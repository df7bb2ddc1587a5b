package sem_test

import (
	"fmt"
	"math"
	"math/rand"
	"reflect"
	"slices"
	"testing"

	"stockade/act"
	"stockade/api"
	"stockade/kind"
	"stockade/scope"
	"stockade/sem"
	"stockade/tree"
	"stockade/value"
)

// The tests of P13.1 on wrong inputs, on threads that are asked by hand, and on what is kept.

// checkRefused asks for ErrCode of all calls, with nothing beside it.
func checkRefused(t *testing.T, p api.Program) {
	t.Helper()
	if run, err := sem.Start(p); run != nil || err != api.ErrCode {
		t.Errorf("%v: Start = %v, %v", p, run, err)
	}
	for _, fuel := range []int{-1, 0, 1, 100} {
		if events, end, err := sem.Play(p, []int{1}, fuel); len(events) > 0 || end != (api.End{}) || err != api.ErrCode {
			t.Errorf("%v: Play = %v, %v, %v", p, events, end, err)
		}
	}
	if begin, err := sem.Begin(p); begin != nil || err != api.ErrCode {
		t.Errorf("%v: Begin = %v, %v", p, begin != nil, err)
	}
}

const rich = "var x int; var a[2] float; mutex m; chan c[1] bool; atomic k; func f(p int, q bool) { if q { x = p; } else { return; } while x < 0 { a[x] = a[1] / #3ff0000000000000; } } " +
	"func main() { v := x + 1; w := v < 2; f(v, w); go f(-v, !w); lock m; unlock m; send c, w; recv c, w; add k, 1; put k, v; get k, v; fail int(a[0]); }"

func TestNotTyped(t *testing.T) {
	p := build(t, rich)
	if _, err := sem.Start(p); err != nil {
		t.Fatal(err)
	}
	checkRefused(t, api.Program{})
	n, _ := tree.Parse(rich)
	resolved, _ := scope.Resolve(n)
	checkRefused(t, resolved) // no types yet
	for _, change := range []func(p *api.Program){
		func(p *api.Program) { p.Main = 0 },
		func(p *api.Program) { p.Main = -1 },
		func(p *api.Program) { p.Main = 2 },
		func(p *api.Program) { p.Funcs = nil },
		func(p *api.Program) { p.Places = p.Places[:1] },
		func(p *api.Program) { p.Places[0] = 0 },
		func(p *api.Program) { p.Places[0] = api.TFloat },
		func(p *api.Program) { p.Places = slices.Repeat([]int{1}, api.MaxPlaces+1) },
		func(p *api.Program) { p.Mutexes = 0 },
		func(p *api.Program) { p.Mutexes = -1 },
		func(p *api.Program) { p.Mutexes = math.MaxInt },
		func(p *api.Program) { p.Mutexes = api.MaxObjects },
		func(p *api.Program) { p.Atomics = 0 },
		func(p *api.Program) { p.Chans = nil },
		func(p *api.Program) { p.Chans[0].Room = api.MaxRoom + 1 },
		func(p *api.Program) { p.Chans[0].Type = api.TInt },
		func(p *api.Program) { p.Funcs[0].Params = 1 },
		func(p *api.Program) { p.Funcs[0].Locals = nil },
		func(p *api.Program) { p.Funcs[0].Locals[0] = api.TFloat },
		func(p *api.Program) { p.Funcs[1].Locals[0] = 0 },
		func(p *api.Program) { p.Funcs[1].Locals[1] = api.TInt },
		func(p *api.Program) { p.Funcs[1].Locals = append(p.Funcs[1].Locals, api.TInt) },
		func(p *api.Program) { p.Funcs[1].Block = api.Node{} },
		func(p *api.Program) { p.Funcs[1].Block.Type = api.TInt },
	} {
		q := apart(p)
		change(&q)
		checkRefused(t, q)
	}
	for i := range nodesOf(p) {
		for _, change := range []func(n *api.Node){
			func(n *api.Node) { n.Type++ },
			func(n *api.Node) { n.Type = -1 },
			func(n *api.Node) { n.Kind = 0 },
			func(n *api.Node) { n.Kind = api.KName },
			func(n *api.Node) { n.Kids = append(n.Kids, number(1), number(1)) },
			func(n *api.Node) { n.Obj = 77 },
			func(n *api.Node) { n.Obj = -1 },
			func(n *api.Node) { n.Size = math.MaxInt },
			func(n *api.Node) { n.N = -1 },
		} {
			q := apart(p)
			change(nodesOf(q)[i])
			checkRefused(t, q)
		}
	}
}

// TestChangedPrograms: what isn't typed by layer 9 is refused, and nothing else is, whatever it is.
func TestChangedPrograms(t *testing.T) {
	r := rand.New(rand.NewSource(134))
	took, refused := 0, 0
	for range many(4000) {
		_, p := randomProgram(t, r)
		p = apart(p)
		list := nodesOf(p)
		n := list[r.Intn(len(list))]
		switch r.Intn(8) {
		case 0:
			n.N += r.Intn(3) - 1
		case 1:
			n.Kind = r.Intn(36)
		case 2:
			n.Name = []string{"+", "-", "&&", "", "int", "q"}[r.Intn(6)]
		case 3:
			n.Obj += r.Intn(3) - 1
		case 4:
			n.Size += r.Intn(3) - 1
		case 5:
			*n = deep(*list[r.Intn(len(list))])
		case 6:
			n.Bits = r.Uint64()
		case 7:
			n.At = -r.Int()
		}
		if len(nodesOf(p)) > 10000 {
			continue
		}
		if kind.Typed(p) != nil {
			refused++
			checkRefused(t, p)
			continue
		}
		took++
		checkPlay(t, p, randomPicks(r), 100)
	}
	if took < many(500) || refused < many(500) {
		t.Error(took, refused)
	}
}

func begin(t *testing.T, src string) act.Begin {
	t.Helper()
	b, err := sem.Begin(build(t, src))
	if b == nil || err != nil {
		t.Fatal(b != nil, err)
	}
	return b
}

// TestBeginOfNone: no thread of a number of none, of another number of arguments, of arguments not in form or of other types.
func TestBeginOfNone(t *testing.T) {
	b := begin(t, "func f(p int, q float, r bool, s int) { } func main() { } func g(p bool) { }")
	i, f, y := value.Int(-3), value.Float(math.NaN()), value.Bool(true)
	good := [][]api.Value{{i, f, y, i}, {}, {y}}
	for fn, args := range good {
		if b(fn, args) == nil {
			t.Errorf("no thread of function %d with %v", fn, args)
		}
		for _, other := range []int{-1, 3, 4, 16, math.MinInt, math.MaxInt} {
			if b(other, args) != nil {
				t.Errorf("a thread of function %d", other)
			}
		}
		for n := range 6 {
			some := append(slices.Clone(args), i, f, y, i, y, f)[:n]
			if n != len(args) && b(fn, some) != nil {
				t.Errorf("a thread of function %d with %v", fn, some)
			}
		}
		for at, arg := range args {
			wrong := []api.Value{{}, {Type: 4}, {Type: -1}, {Type: arg.Type + 3, N: arg.N}, {Type: arg.Type, N: 2, Bits: 1}, {Type: arg.Type, N: -1, Bits: 1 << 63}}
			for _, v := range []api.Value{i, f, y, {Type: api.TBool, N: 2}, {Type: api.TBool, N: -1}} {
				if v.Type != arg.Type || !value.Good(v) {
					wrong = append(wrong, v)
				}
			}
			for _, v := range wrong {
				some := slices.Clone(args)
				some[at] = v
				if b(fn, some) != nil {
					t.Errorf("a thread of function %d with %v", fn, some)
				}
			}
		}
	}
	if b(1, nil) == nil || b(1, []api.Value{}) == nil {
		t.Error("no thread of a function without parameters")
	}
}

// checkNext asks a thread once.
func checkNext(t *testing.T, thread act.Thread, in api.Value, wait act.Wait, halt act.Halt) {
	t.Helper()
	gotWait, gotHalt := thread.Next(in)
	if got, want := fmt.Sprint(gotWait, gotHalt), fmt.Sprint(wait, halt); got != want {
		t.Errorf("Next(%v) = %s, want %s", in, got, want)
	}
}

// TestThreads: by what it is given a thread goes on; others of its function have nothing to do with that.
func TestThreads(t *testing.T) {
	m := unmark("var x int; var a[2] float; chan c[0] bool; atomic k; func w(n int, y float) { } func f(p int, q bool) $e { $a a[$b x] = float(p); $c recv c, q; if q { $d go w(p + 1, $f a[1]); } $g get k, p; $h fail p; } func main() { }")
	byte := map[string]int{}
	for at, name := range m.names {
		byte[name] = at
	}
	b := begin(t, m.src)
	none, no := api.Value{}, act.Halt{}
	args := []api.Value{value.Int(5), value.Bool(false)}
	first, second := b(1, args), b(1, []api.Value{value.Int(6), value.Bool(true)})
	args[0], args[1] = value.Int(77), value.Bool(true)
	for _, thread := range []act.Thread{first, second} {
		checkNext(t, thread, none, act.Wait{Kind: api.EvRead, Obj: 0, At: byte["b"]}, no)
	}
	checkNext(t, first, value.Int(1), act.Wait{Kind: api.EvWrite, Obj: 2, At: byte["a"], V: value.Float(5)}, no)
	checkNext(t, first, none, act.Wait{Kind: api.EvRecv, Obj: 0, At: byte["c"]}, no)
	checkNext(t, second, value.Int(2), act.Wait{}, act.Halt{Fault: api.FaultIndex, At: byte["a"]})
	checkNext(t, first, value.Bool(true), act.Wait{Kind: api.EvRead, Obj: 2, At: byte["f"]}, no)
	checkNext(t, first, value.Float(2.5), act.Wait{Kind: api.EvGo, Obj: 0, At: byte["d"], Args: []api.Value{value.Int(6), value.Float(2.5)}}, no)
	checkNext(t, first, none, act.Wait{Kind: api.EvGet, Obj: 0, At: byte["g"]}, no)
	checkNext(t, first, value.Int(-9), act.Wait{}, act.Halt{Fault: api.FaultFail, N: -9, At: byte["h"]})
	third := b(2, nil)
	for range 3 {
		checkNext(t, third, none, act.Wait{Kind: api.EvEnd, At: len(m.src) - 3}, no)
	}
	for range 3 {
		checkNext(t, first, none, act.Wait{}, act.Halt{Fault: api.FaultFail, N: -9, At: byte["h"]})
		checkNext(t, second, none, act.Wait{}, act.Halt{Fault: api.FaultIndex, At: byte["a"]})
	}
}

// TestGivenAnything: a thread that is given what no event gives tells a wait or a halt still.
func TestGivenAnything(t *testing.T) {
	r := rand.New(rand.NewSource(135))
	any := func() api.Value {
		return api.Value{Type: r.Intn(6) - 1, N: []int{0, 1, 2, -1, math.MaxInt, math.MinInt}[r.Intn(6)], Bits: []uint64{0, 1, 1 << 63, 0x7ff8000000000000}[r.Intn(4)]}
	}
	for range many(2000) {
		_, p := randomProgram(t, r)
		b, err := sem.Begin(p)
		if err != nil {
			t.Fatal(err)
		}
		for fn, f := range p.Funcs {
			var args []api.Value
			for _, typ := range f.Locals[:f.Params] {
				args = append(args, value.Zero(typ))
			}
			thread := b(fn, args)
			for range 60 {
				w, h := thread.Next(any())
				if (w.Kind < api.EvRead || w.Kind > api.EvEnd) == (h.Fault == 0) {
					t.Fatalf("%v: %v %v", p, w, h)
				}
			}
		}
	}
}

// TestTwoRuns of one program, and of one Begin, in turns: each does what it does by itself.
func TestTwoRuns(t *testing.T) {
	r := rand.New(rand.NewSource(136))
	for range many(500) {
		_, p := randomProgram(t, r)
		var runs []*act.Run
		var picks [][]int
		for range 3 {
			run, err := sem.Start(p)
			if err != nil {
				t.Fatal(err)
			}
			runs, picks = append(runs, run), append(picks, randomPicks(r))
		}
		listed := []func(int) int{act.Listed(picks[0]), act.Listed(picks[1]), act.Listed(picks[2])}
		for range 150 {
			i := r.Intn(3)
			runs[i].Play(listed[i], runs[i].Count()+1)
		}
		for i, run := range runs {
			events, _, err := sem.Play(p, picks[i], run.Count())
			if fmt.Sprint(events, err) != fmt.Sprint(run.Events(), nil) {
				t.Fatalf("%v, picks %v\n got %v\nwant %v", p, picks[i], run.Events(), events)
			}
		}
	}
}

// roomy is a copy of a program whose lists have spare room.
func roomy(p api.Program) api.Program {
	p = apart(p)
	p.Places, p.Chans, p.Funcs = roomFor(p.Places), roomFor(p.Chans), roomFor(p.Funcs)
	for i := range p.Funcs {
		p.Funcs[i].Locals = roomFor(p.Funcs[i].Locals)
	}
	for _, n := range nodesOf(p) {
		n.Kids = roomFor(n.Kids)
	}
	return p
}

func roomFor[T any](list []T) []T {
	return append(make([]T, 0, len(list)+3), list...)
}

// room is what a program's lists hold, spare room included.
func room(p api.Program) string {
	text := fmt.Sprint(p, p.Places[:cap(p.Places)], p.Chans[:cap(p.Chans)], p.Funcs[:cap(p.Funcs)])
	for _, f := range p.Funcs {
		text += fmt.Sprint(f.Locals[:cap(f.Locals)])
	}
	for _, n := range nodesOf(p) {
		text += fmt.Sprint(n.Kids[:cap(n.Kids)])
	}
	return text
}

// spoil changes everything that a program's lists hold.
func spoil(p api.Program) {
	list := nodesOf(p)
	for i := range p.Funcs {
		clear(p.Funcs[i].Locals)
		p.Funcs[i] = api.Func{}
	}
	for _, n := range list {
		*n = api.Node{Kind: api.KFail, Kids: []api.Node{number(99)}}
	}
	clear(p.Places)
	clear(p.Chans)
}

// TestNothingKept: a program, picks and arguments that are changed later don't matter; none of them is changed.
func TestNothingKept(t *testing.T) {
	r := rand.New(rand.NewSource(137))
	for range many(120) {
		_, p := randomProgram(t, r)
		picks := append(make([]int, 0, 20), randomPicks(r)...)
		events, end, _ := sem.Play(p, picks, 150)
		q := roomy(p)
		before, picksBefore := room(q), fmt.Sprint(picks[:20])
		sem.Play(q, picks, 150)
		run, _ := sem.Start(q)
		b, _ := sem.Begin(q)
		run.Play(act.Listed(picks), 20)
		if room(q) != before || fmt.Sprint(picks[:20]) != picksBefore {
			t.Fatalf("%v is changed", p)
		}
		spoil(q)
		if got := run.Play(listedFrom(p, picks), 150); got != end || !slices.Equal(run.Events(), events) {
			t.Fatalf("%v\n got %v %v\nwant %v %v", p, got, run.Events(), end, events)
		}
		for fn, f := range p.Funcs {
			args := make([]api.Value, f.Params, f.Params+2)
			for i, typ := range f.Locals[:f.Params] {
				args[i] = value.Zero(typ)
			}
			was := slices.Clone(args[:cap(args)])
			own, _ := sem.Begin(p)
			first, second := b(fn, args), own(fn, slices.Clone(args))
			if !slices.Equal(args[:cap(args)], was) {
				t.Fatal("the arguments are changed")
			}
			clear(args)
			for range 20 {
				w, h := first.Next(api.Value{})
				v, i := second.Next(api.Value{})
				if fmt.Sprint(w, h) != fmt.Sprint(v, i) {
					t.Fatalf("%v: %v %v, want %v %v", p, w, h, v, i)
				}
				clear(w.Args[:cap(w.Args)]) // what was told is the asker's
			}
		}
	}
}

// listedFrom is the picks that are left, when 20 events are done.
func listedFrom(p api.Program, picks []int) func(int) int {
	next := act.Listed(picks)
	run, _ := sem.Start(p)
	run.Play(next, 20)
	return next
}

// TestOwnEvents: what one call answers isn't changed by what is done with it, or by later calls.
func TestOwnEvents(t *testing.T) {
	p := build(t, rich)
	first, _, _ := sem.Play(p, nil, 50)
	second, _, _ := sem.Play(p, nil, 50)
	kept := slices.Clone(second)
	clear(first[:cap(first)])
	if third, _, _ := sem.Play(p, nil, 50); !reflect.DeepEqual(second, kept) || !reflect.DeepEqual(third, kept) {
		t.Error(second, third, kept)
	}
}
