package order

import "stockade/api"

// A walk goes through a trace in its order, in which all that is directly ahead of an event is gone through before it.
type walk struct {
	trace   []api.Event
	rooms   []int
	gos     [api.MaxGo]seen // of each goroutine what its next event knows
	mutexes map[int]seen    // what is known by an EvLock
	atomics map[int]seen    // what is known by an event of the atomic
	chans   map[int]channel
	past    []seen // of each event what it knows, itself among that
}

// channel is where in the trace a channel's events stand.
type channel struct {
	sends, recvs []int
}

// pasts tells of each event of a trace in form what it knows.
func pasts(trace []api.Event, rooms []int) []seen {
	w := &walk{
		trace:   trace,
		rooms:   rooms,
		mutexes: map[int]seen{},
		atomics: map[int]seen{},
		chans:   map[int]channel{},
		past:    make([]seen, 0, len(trace)),
	}
	for i, e := range trace {
		mine := &w.gos[e.G]
		w.learn(mine, e)
		mine[e.G]++
		w.past = append(w.past, *mine)
		w.tell(*mine, e, i)
	}
	return w.past
}

// learn joins what an event knows by way of what goroutines share.
func (w *walk) learn(mine *seen, e api.Event) {
	switch e.Kind {
	case api.EvLock:
		mine.join(w.mutexes[e.Obj])
	case api.EvGet, api.EvPut, api.EvAdd:
		mine.join(w.atomics[e.Obj])
	case api.EvSend:
		w.learnSend(mine, e.Obj)
	case api.EvRecv:
		w.learnRecv(mine, e.Obj)
	}
}

// learnSend joins the EvRecv that made room for a channel's next EvSend.
func (w *walk) learnSend(mine *seen, obj int) {
	room := w.room(obj)
	if room == 0 {
		return
	}
	c := w.chans[obj]
	if k := len(c.sends) - room; k >= 0 && k < len(c.recvs) {
		mine.join(w.past[c.recvs[k]])
	}
}

// learnRecv joins the EvSend that a channel's next EvRecv takes from, if that stands ahead of it.
func (w *walk) learnRecv(mine *seen, obj int) {
	c := w.chans[obj]
	if k := len(c.recvs); k < len(c.sends) {
		mine.join(w.past[c.sends[k]])
	}
}

// tell leaves what an event knows to those of which it is directly ahead.
func (w *walk) tell(mine seen, e api.Event, at int) {
	switch e.Kind {
	case api.EvGo:
		w.gos[e.Obj].join(mine)
	case api.EvUnlock:
		all := w.mutexes[e.Obj]
		all.join(mine) // another goroutine may have unlocked it without a lock between
		w.mutexes[e.Obj] = all
	case api.EvGet, api.EvPut, api.EvAdd:
		w.atomics[e.Obj] = mine // which knows all that stood there
	case api.EvSend:
		c := w.chans[e.Obj]
		c.sends = append(c.sends, at)
		w.chans[e.Obj] = c
	case api.EvRecv:
		w.tellRecv(mine, e.Obj, at)
	}
}

// tellRecv leaves what an EvRecv knows; of a channel of room 0 the sender's next events know it.
func (w *walk) tellRecv(mine seen, obj, at int) {
	c := w.chans[obj]
	if k := len(c.recvs); w.room(obj) == 0 && k < len(c.sends) {
		w.gos[w.trace[c.sends[k]].G].join(mine)
	}
	c.recvs = append(c.recvs, at)
	w.chans[obj] = c
}

// room is a channel's room; of one that isn't told it is 0.
func (w *walk) room(obj int) int {
	if obj < 0 || obj >= len(w.rooms) {
		return 0
	}
	return max(w.rooms[obj], 0)
}
