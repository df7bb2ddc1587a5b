package act_test

import (
	"math/rand"
	"testing"

	"stockade/act"
	"stockade/api"
	"stockade/value"
)

// The tests of P12.2: of each mutex and channel the events in order, against what the promise says. checkHeld is also asked of every run of the other tests whose state is its own.

func checkHeld(t *testing.T, events []api.Event, chans []api.Chan, told any) {
	t.Helper()
	last := map[int]int{}
	sends, recvs := map[int]int{}, map[int]int{}
	for i, e := range events {
		switch e.Kind {
		case api.EvLock, api.EvUnlock:
			want := api.EvLock
			if last[e.Obj] == api.EvLock {
				want = api.EvUnlock
			}
			if e.Kind != want {
				t.Fatalf("%v: event %d of %v isn't in turn", told, i, events)
			}
			last[e.Obj] = e.Kind
		case api.EvSend:
			sends[e.Obj]++
		case api.EvRecv:
			recvs[e.Obj]++
		}
		if e.Kind != api.EvSend && e.Kind != api.EvRecv {
			continue
		}
		room := max(chans[e.Obj].Room, 1)
		if ahead := sends[e.Obj] - recvs[e.Obj]; ahead < 0 || ahead > room {
			t.Fatalf("%v: behind event %d of %v, %d sends and %d receives of a channel of room %d", told, i, events, sends[e.Obj], recvs[e.Obj], chans[e.Obj].Room)
		}
	}
}

// crowd is scripts of goroutines that all go for the same few mutexes and channels, some of them out of turn.
func crowd(r *rand.Rand, h shape) [][]act.Wait {
	scripts := make([][]act.Wait, 1, 8)
	for fn := 1; fn < 8; fn++ {
		scripts[0] = append(scripts[0], wait(api.EvGo, fn, fn))
		var list []act.Wait
		for range 20 {
			m, c := r.Intn(h.mutexes), r.Intn(len(h.chans))
			switch r.Intn(9) {
			case 0, 1, 2:
				list = append(list, wait(api.EvLock, m, 1), wait(api.EvTurn, 0, 2), wait(api.EvUnlock, m, 3))
			case 3, 4:
				list = append(list, with(api.EvSend, c, 4, value.Int(fn)))
			case 5, 6:
				list = append(list, wait(api.EvRecv, c, 5))
			case 7:
				list = append(list, wait(api.EvTurn, 0, 6))
			case 8:
				if r.Intn(10) == 0 {
					list = append(list, wait(api.EvLock+r.Intn(2), m, 7))
				}
			}
		}
		scripts = append(scripts, list)
	}
	return scripts
}

func TestWhatIsHeld(t *testing.T) {
	r := rand.New(rand.NewSource(122))
	h := shape{mutexes: 2, chans: []api.Chan{{Type: api.TInt}, {Type: api.TInt, Room: 1}, {Type: api.TInt, Room: 2}, {Type: api.TInt, Room: api.MaxRoom}}}
	kinds := map[int]int{}
	for range 3000 {
		scripts := crowd(r, h)
		run := act.Start(h.state(t), act.Scripted(scripts), 0)
		run.Play(r.Intn, 400)
		checkHeld(t, run.Events(), h.chans, scripts)
		for _, e := range run.Events() {
			kinds[e.Kind]++
		}
	}
	for kind := api.EvLock; kind <= api.EvRecv; kind++ {
		if kinds[kind] < 5000 {
			t.Errorf("too few events of kind %d: %v", kind, kinds)
		}
	}
}

// TestAsFullAsMayBe: each room is filled up, and no more goes in; behind a receive one more does.
func TestAsFullAsMayBe(t *testing.T) {
	for room := 1; room <= api.MaxRoom; room++ {
		h := shape{chans: []api.Chan{{Type: api.TInt, Room: room}}}
		var sends []act.Wait
		for n := range room + 2 {
			sends = append(sends, with(api.EvSend, 0, n, value.Int(n)))
		}
		first := append([]act.Wait{wait(api.EvGo, 1, 0)}, sends...)
		b := begin(t, h, [][]act.Wait{first, {wait(api.EvTurn, 0, 0), wait(api.EvRecv, 0, 0)}}, 0)
		b.do(0)
		for range room {
			b.do(0)
			b.check()
		}
		b.refuse() // the channel is full: goroutine 0 can't run
		if able := b.run.Runnable(); len(able) != 1 || able[0] != 1 {
			t.Fatalf("room %d: %v can run though the channel is full", room, able)
		}
		b.do(1)
		b.do(1)
		b.do(0)
		b.check()
		b.refuse()
		b.do(1)
		b.check()
		checkHeld(t, b.run.Events(), h.chans, room)
		if end := b.run.End(); end.Outcome != api.Deadlock {
			t.Errorf("room %d: %v", room, end)
		}
	}
}
