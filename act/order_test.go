package act_test

import (
	"fmt"
	"math"
	"math/rand"
	"slices"
	"testing"

	"stockade/act"
	"stockade/api"
	"stockade/value"
)

// The tests of P12.1 in every order: of short scripts all orders of goroutines, of long ones many; each against the model.

// everyOrder does the scripts in all orders of goroutines, up to a number of events; how many orders there were.
func everyOrder(t *testing.T, h shape, scripts [][]act.Wait, most int) int {
	t.Helper()
	var row []int
	var deeper func() int
	deeper = func() int {
		b := begin(t, h, scripts, 0)
		for _, g := range row {
			b.do(g)
		}
		b.check()
		b.refuse()
		b.check()
		checkHeld(t, b.run.Events(), h.chans, b.told)
		able := b.model.able()
		if len(able) == 0 || len(row) == most {
			return 1
		}
		count := 0
		for _, g := range able {
			row = append(row, g)
			count += deeper()
			row = row[:len(row)-1]
		}
		return count
	}
	return deeper()
}

func wait(kind, obj, at int) act.Wait { return act.Wait{Kind: kind, Obj: obj, At: at} }

func with(kind, obj, at int, v api.Value) act.Wait {
	return act.Wait{Kind: kind, Obj: obj, At: at, V: v}
}

func TestEveryOrder(t *testing.T) {
	h := shape{places: []int{api.TInt}, mutexes: 2, chans: []api.Chan{{Type: api.TInt}, {Type: api.TInt, Room: 1}, {Type: api.TInt, Room: 2}}, atomics: 1}
	goOf := func(fn int) act.Wait { return wait(api.EvGo, fn, 100+fn) }
	lock, unlock := wait(api.EvLock, 0, 3), wait(api.EvUnlock, 0, 4)
	lock1, unlock1 := wait(api.EvLock, 1, 5), wait(api.EvUnlock, 1, 6)
	send := func(c, n int) act.Wait { return with(api.EvSend, c, 10+c, value.Int(n)) }
	recv := func(c int) act.Wait { return wait(api.EvRecv, c, 20+c) }
	read, write := wait(api.EvRead, 0, 1), with(api.EvWrite, 0, 2, value.Int(7))
	fail := with(0, 0, 30, value.Int(9))
	sets := map[string][][]act.Wait{
		"one that does nothing":           {{}},
		"the chapter's":                   {{goOf(1), lock, unlock}, {lock}},
		"two that lock":                   {{goOf(1), lock, read, unlock}, {lock, write, unlock}},
		"three that lock":                 {{goOf(1), goOf(1), lock, unlock}, {lock, unlock}},
		"two mutexes crosswise":           {{goOf(1), lock, lock1, unlock1, unlock}, {lock1, lock, unlock, unlock1}},
		"another one unlocks":             {{goOf(1), lock}, {unlock}},
		"room 0":                          {{goOf(1), send(0, 1), send(0, 2)}, {recv(0), recv(0)}},
		"room 0, the receiver begins":     {{goOf(1), recv(0), read}, {write, send(0, 1)}},
		"room 0, three receivers":         {{goOf(1), goOf(1), goOf(1), send(0, 1), send(0, 2)}, {recv(0)}},
		"room 0, two senders, one takes":  {{goOf(1), goOf(1), recv(0)}, {send(0, 3), read}},
		"room 0, nobody receives":         {{goOf(1), send(0, 1)}, {send(0, 2)}},
		"room 0, all receive":             {{goOf(1), recv(0)}, {recv(0)}},
		"room 1":                          {{goOf(1), send(1, 1), send(1, 2), send(1, 3)}, {recv(1), recv(1)}},
		"room 2, two senders":             {{goOf(1), goOf(1), recv(2), recv(2), recv(2)}, {send(2, 1), send(2, 2)}},
		"atomics":                         {{goOf(1), with(api.EvAdd, 0, 1, value.Int(2)), wait(api.EvGet, 0, 2)}, {with(api.EvPut, 0, 3, value.Int(5)), wait(api.EvGet, 0, 4)}},
		"turns":                           {{goOf(1), wait(api.EvTurn, 0, 1), wait(api.EvTurn, -4, 2)}, {wait(api.EvTurn, 9, -3)}},
		"an EvEnd ahead of the script's":  {{goOf(1), wait(api.EvEnd, 6, 9), read}, {wait(api.EvEnd, 0, 1)}},
		"one fails":                       {{goOf(1), read, write}, {read, fail}},
		"the sender fails":                {{goOf(1), send(0, 1), fail}, {recv(0), read}},
		"the receiver fails":              {{goOf(1), send(0, 1), read}, {recv(0), fail}},
		"both fail, the sender is first":  {{goOf(1), send(0, 1), with(0, 0, 1, value.Int(1))}, {recv(0), with(0, 0, 2, value.Int(2))}},
		"both fail, the receiver is 0":    {{goOf(1), recv(0), with(0, 0, 1, value.Int(1))}, {send(0, 5), with(0, 0, 2, value.Int(2))}},
		"a new one fails":                 {{goOf(1), read}, {fail}},
		"both fail behind EvGo":           {{goOf(1), with(0, 0, 1, value.Int(1))}, {with(0, 0, 2, value.Int(2))}},
		"EvGo of none":                    {{goOf(1), goOf(2)}, {read, read}},
		"goroutines that begin more":      {{goOf(1), goOf(2)}, {goOf(2)}, {read}},
		"one that begins itself for ever": {{goOf(0)}},
		"one can't go on":                 {{goOf(1), read, wait(77, 0, 0)}, {write, wait(api.EvRead, 1, 0)}},
		"a wrong value waits for ever":    {{goOf(1), with(api.EvSend, 0, 1, value.Bool(true))}, {recv(0)}},
	}
	for told, scripts := range sets {
		t.Run(told, func(t *testing.T) {
			everyOrder(t, h, scripts, 9)
		})
	}
	// How many orders there are is told by hand: three goroutines' one event each, and the others' ends.
	if n := everyOrder(t, h, [][]act.Wait{{}}, 9); n != 1 {
		t.Errorf("one goroutine: %d orders", n)
	}
	if n := everyOrder(t, h, [][]act.Wait{{goOf(1), read}, {read}}, 9); n != 6 { // 4 events, two and two in order
		t.Errorf("two goroutines of two events each: %d orders", n)
	}
}

// TestEveryScript does all pairs of scripts of up to two waits out of a few, in all orders.
func TestEveryScript(t *testing.T) {
	h := shape{places: []int{api.TInt}, mutexes: 1, chans: []api.Chan{{Type: api.TInt}, {Type: api.TInt, Room: 1}}}
	of := map[string][]act.Wait{
		"mutexes":  {wait(api.EvLock, 0, 1), wait(api.EvUnlock, 0, 2), wait(api.EvGo, 2, 3), {At: 4}},
		"room 0":   {with(api.EvSend, 0, 1, value.Int(1)), wait(api.EvRecv, 0, 2), wait(api.EvTurn, 0, 3), {At: 4}},
		"room 1":   {with(api.EvSend, 1, 1, value.Int(1)), with(api.EvSend, 1, 2, value.Int(2)), wait(api.EvRecv, 1, 3)},
		"a mix":    {wait(api.EvLock, 0, 1), with(api.EvSend, 0, 2, value.Int(1)), wait(api.EvRecv, 0, 3), wait(api.EvEnd, 0, 4)},
		"no event": {wait(api.EvRead, 1, 1), with(api.EvWrite, 0, 2, value.Bool(true)), wait(api.EvRead, 0, 3), wait(13, 0, 4)},
	}
	for told, list := range of {
		t.Run(told, func(t *testing.T) {
			scripts := [][]act.Wait{{}}
			for _, a := range list {
				scripts = append(scripts, []act.Wait{a})
				for _, b := range list {
					scripts = append(scripts, []act.Wait{a, b})
				}
			}
			for i, a := range scripts {
				if testing.Short() && i%4 != 0 {
					continue
				}
				for _, b := range scripts {
					first := append([]act.Wait{wait(api.EvGo, 1, 50)}, a...)
					everyOrder(t, h, [][]act.Wait{first, b, {wait(api.EvLock, 0, 60)}}, 8)
				}
			}
		})
	}
}

func someShape() shape {
	return shape{
		places: []int{api.TInt, api.TBool, api.TFloat}, mutexes: 2,
		chans:   []api.Chan{{Type: api.TInt}, {Type: api.TFloat, Room: 1}, {Type: api.TInt, Room: 3}, {Type: api.TBool}},
		atomics: 2,
	}
}

func someValues() []api.Value {
	return []api.Value{
		value.Int(5), value.Int(-1), value.Int(math.MaxInt), value.Int(math.MinInt), value.Float(1.5), value.Float(math.NaN()), value.Bool(true), value.Bool(false),
		{}, {Type: 4}, {Type: -1}, {Type: api.TInt, Bits: 1}, {Type: api.TFloat, N: 1}, {Type: api.TBool, N: 2}, {Type: api.TBool, N: 1, Bits: 1},
	}
}

// rightValue is one of the type that the object of a wait asks for.
func rightValue(r *rand.Rand, kind, obj int) api.Value {
	typ := api.TInt
	h := someShape()
	if kind == api.EvWrite && obj >= 0 && obj < len(h.places) {
		typ = h.places[obj]
	}
	if kind == api.EvSend && obj >= 0 && obj < len(h.chans) {
		typ = h.chans[obj].Type
	}
	switch typ {
	case api.TFloat:
		return value.Float(r.Float64())
	case api.TBool:
		return value.Bool(r.Intn(2) == 0)
	}
	return value.Int(r.Intn(100) - 50)
}

// randomWait is mostly one that some run can do.
func randomWait(r *rand.Rand, at int) act.Wait {
	sizes := map[int]int{api.EvRead: 3, api.EvWrite: 3, api.EvLock: 2, api.EvUnlock: 2, api.EvSend: 4, api.EvRecv: 4, api.EvGet: 2, api.EvPut: 2, api.EvAdd: 2, api.EvGo: 4, api.EvTurn: 1, api.EvEnd: 1}
	w := act.Wait{Kind: 1 + r.Intn(11), At: at}
	w.Obj = r.Intn(sizes[w.Kind])
	w.V = rightValue(r, w.Kind, w.Obj)
	if w.Kind == api.EvGo {
		for range r.Intn(3) {
			w.Args = append(w.Args, someValues()[r.Intn(15)])
		}
	}
	switch r.Intn(60) {
	case 0:
		w.Kind = r.Intn(20) - 3
	case 1:
		w.Obj = r.Intn(9) - 2
	case 2:
		w.V = someValues()[r.Intn(15)]
	case 3:
		w.Kind = api.EvEnd
	case 4:
		w.Kind = 0
	}
	return w
}

// randomScripts are of locks that are unlocked again, mostly, and of receives of what was sent just before, often, so that runs come far.
func randomScripts(r *rand.Rand) [][]act.Wait {
	var scripts [][]act.Wait
	at := 0
	for range 4 {
		var list []act.Wait
		for range r.Intn(10) {
			at++
			w := randomWait(r, at)
			if (w.Kind == api.EvLock || w.Kind == api.EvUnlock) && r.Intn(8) != 0 {
				list = append(list, wait(api.EvLock, w.Obj, at), wait(api.EvTurn, 0, at), wait(api.EvUnlock, w.Obj, -at))
				continue
			}
			if h := someShape(); w.Kind == api.EvRecv && w.Obj >= 0 && w.Obj < len(h.chans) && h.chans[w.Obj].Room > 0 && r.Intn(3) != 0 {
				list = append(list, with(api.EvSend, w.Obj, at, rightValue(r, api.EvSend, w.Obj)))
			}
			list = append(list, w)
		}
		scripts = append(scripts, list)
	}
	for range r.Intn(4) { // a pair that meets, if both come so far
		c := 3 * r.Intn(2)
		for _, kind := range []int{api.EvSend, api.EvRecv} {
			at++
			fn := r.Intn(4)
			place := r.Intn(len(scripts[fn]) + 1)
			scripts[fn] = slices.Insert(scripts[fn], place, with(kind, c, at, rightValue(r, api.EvSend, c)))
		}
	}
	for range r.Intn(4) {
		scripts[0] = append([]act.Wait{wait(api.EvGo, 1+r.Intn(3), 1000)}, scripts[0]...)
	}
	return scripts
}

func TestRandomRuns(t *testing.T) {
	r := rand.New(rand.NewSource(12))
	runs := 6000
	if testing.Short() {
		runs = 600
	}
	ends, kinds, met := map[string]int{}, map[int]int{}, 0
	for range runs {
		b := begin(t, someShape(), randomScripts(r), 0)
		b.check()
		for able := b.model.able(); len(able) > 0 && b.run.Count() < 200; able = b.model.able() {
			if r.Intn(4) == 0 {
				b.refuse()
			}
			b.do(able[r.Intn(len(able))])
			b.check()
		}
		b.refuse()
		b.check()
		checkHeld(t, b.run.Events(), someShape().chans, b.told)
		ends[fmt.Sprint(b.run.End().Outcome, b.run.End().Fault)]++
		for _, e := range b.run.Events() {
			kinds[e.Kind]++
			if e.Kind == api.EvSend && someShape().chans[e.Obj].Room == 0 {
				met++
			}
		}
	}
	// The scripts are of use only if they come to every end and to every kind of event.
	for _, end := range []string{"1 0", "2 0", "3 4", "3 5", "3 7"} {
		if ends[end] == 0 {
			t.Errorf("no run ended with outcome and fault %s: %v", end, ends)
		}
	}
	for kind := api.EvRead; kind <= api.EvEnd; kind++ {
		if kinds[kind] < runs/10 {
			t.Errorf("too few events of kind %d: %v", kind, kinds)
		}
	}
	if met < runs/50 {
		t.Errorf("too few sends of room 0: %d", met)
	}
}
