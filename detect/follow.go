package detect

import (
	"stockade/api"
	"stockade/clock"
)

// The words of a channel's first page, behind a clock.
const (
	nextSend = api.MaxGo + iota // on which of its pages the next EvSend's clock will stand
	nextRecv                    // on which one that of the next EvRecv's value stands
	sender                      // of room 0: one more than the goroutine of the last EvSend
)

// follow makes an event know what is directly ahead of it, and leaves what it knows to those behind it.
func (d *Detector) follow(e api.Event, mine []int) {
	mine = clock.Join(mine, d.ahead(e))
	d.setClock(d.pages[thing{ofGo, e.G}], mine)
	switch e.Kind {
	case api.EvGo:
		d.joinClock(d.pages[thing{ofGo, e.Obj}], mine)
	case api.EvUnlock:
		// Joined, for who unlocks needn't have locked it, and so may not know the unlock before.
		d.joinClock(d.pages[thing{ofMutex, e.Obj}], mine)
	case api.EvGet, api.EvPut, api.EvAdd:
		d.setClock(d.pages[thing{ofAtomic, e.Obj}], mine)
	case api.EvSend:
		d.send(e, mine)
	case api.EvRecv:
		d.recv(e, mine)
	case api.EvRead, api.EvWrite:
		d.access(e, mine)
	}
}

// ahead is what an event learns by way of its object.
func (d *Detector) ahead(e api.Event) []int {
	switch e.Kind {
	case api.EvLock:
		return d.clockOf(thing{ofMutex, e.Obj})
	case api.EvGet, api.EvPut, api.EvAdd:
		return d.clockOf(thing{ofAtomic, e.Obj})
	case api.EvSend:
		// The page that it will take was emptied by the EvRecv that made room; of room 0 none did.
		if d.room(e.Obj) > 0 {
			return d.clockAt(d.slot(e.Obj, nextSend))
		}
	case api.EvRecv:
		return d.clockAt(d.slot(e.Obj, nextRecv))
	}
	return nil
}

// slot is the address of the page whose turn it is. It has the clock of the EvSend whose value stands there, or of the EvRecv that took it: no run needs both at once.
func (d *Detector) slot(channel, turn int) int {
	at := d.pages[thing{ofChan, channel}]
	return at + d.get(at+turn)*api.PageWords
}

// pass leaves a clock on the page whose turn it is, and passes the turn on.
func (d *Detector) pass(channel, turn int, mine []int) {
	d.setClock(d.slot(channel, turn), mine)
	t := thing{ofChan, channel}
	at := d.pages[t] + turn
	d.set(at, (d.get(at)+1)%d.size(t))
}

func (d *Detector) send(e api.Event, mine []int) {
	d.pass(e.Obj, nextSend, mine)
	if d.room(e.Obj) == 0 {
		d.set(d.pages[thing{ofChan, e.Obj}]+sender, e.G+1)
	}
}

// recv lets the sender of a channel of room 0 know too that its value was taken.
func (d *Detector) recv(e api.Event, mine []int) {
	d.pass(e.Obj, nextRecv, mine)
	if d.room(e.Obj) > 0 {
		return
	}
	from := d.get(d.pages[thing{ofChan, e.Obj}] + sender)
	if at, has := d.pages[thing{ofGo, from - 1}]; has {
		d.joinClock(at, mine)
	}
}
