package detect

import "stockade/api"

// What has pages.
const (
	ofGo = iota
	ofMutex
	ofAtomic
	ofChan
	ofPlace
	ofReaders // a place's second page
)

// thing is what has pages, by its kind and number.
type thing struct {
	kind, number int
}

// needs is what has to have pages when an event is taken, in the order in which they are allocated.
func (d *Detector) needs(e api.Event) []thing {
	list := []thing{{ofGo, e.G}}
	switch e.Kind {
	case api.EvGo:
		list = append(list, thing{ofGo, e.Obj})
	case api.EvUnlock:
		list = append(list, thing{ofMutex, e.Obj})
	case api.EvGet, api.EvPut, api.EvAdd:
		list = append(list, thing{ofAtomic, e.Obj})
	case api.EvSend, api.EvRecv:
		list = append(list, thing{ofChan, e.Obj})
	case api.EvRead, api.EvWrite:
		list = append(list, thing{ofPlace, e.Obj})
	}
	if d.secondReader(e) {
		list = append(list, thing{ofReaders, e.Obj})
	}
	return list
}

// provide allocates the pages of all things that have none, or of none of them.
func (d *Detector) provide(list []thing) error {
	var fresh []thing
	for _, t := range list {
		if _, has := d.pages[t]; has {
			continue
		}
		at, err := d.memory.Alloc(d.size(t) * api.PageWords)
		if err != nil {
			d.withdraw(fresh)
			return err
		}
		d.pages[t] = at
		d.count += d.size(t)
		fresh = append(fresh, t)
	}
	return nil
}

func (d *Detector) withdraw(list []thing) {
	for _, t := range list {
		d.memory.Free(d.pages[t])
		delete(d.pages, t)
		d.count -= d.size(t)
	}
}

// size is how many pages a thing has.
func (d *Detector) size(t thing) int {
	if t.kind != ofChan {
		return 1
	}
	return max(d.room(t.number), 1)
}

// room is a channel's room; of one that isn't told it is 0. Greater ones than fit in any arena are cut, so that their words don't wrap round.
func (d *Detector) room(channel int) int {
	if channel < 0 || channel >= len(d.rooms) {
		return 0
	}
	return min(max(d.rooms[channel], 0), api.MaxPages+1)
}
