package detect

import (
	"cmp"
	"slices"

	"stockade/api"
	"stockade/clock"
)

// mark is an access of a place: its epoch, whose count is 0 if there is none, and the event's byte.
type mark struct {
	clock.Epoch
	at int
}

// Where in a place's page its marks stand.
const (
	lastWrite  = 0
	onlyReader = lastWrite + markWords // the only reader since then, of a place without a second page
)

// The words of a mark.
const (
	markG = iota
	markN
	markAt
	markWords
)

// The words of each goroutine in a place's second page: those of its last EvRead since the last EvWrite.
const (
	readN = iota
	readAt
	readWords
)

func (d *Detector) mark(at int) mark {
	return mark{clock.Epoch{G: d.get(at + markG), N: d.get(at + markN)}, d.get(at + markAt)}
}

func (d *Detector) setMark(at int, m mark) {
	d.set(at+markG, m.G)
	d.set(at+markN, m.N)
	d.set(at+markAt, m.at)
}

// secondReader tells whether an event is the first EvRead of a second goroutine since its place's last EvWrite, for all that a place without a second page knows.
func (d *Detector) secondReader(e api.Event) bool {
	at, has := d.pages[thing{ofPlace, e.Obj}]
	if e.Kind != api.EvRead || !has {
		return false
	}
	only := d.mark(at + onlyReader)
	return only.N > 0 && only.G != e.G
}

// access finds the race of a place, if it is at this access, and keeps what later ones are held against. Older accesses needn't be kept: as long as there is no race, they happen before the last EvWrite.
func (d *Detector) access(e api.Event, mine []int) {
	d.look(e, mine)
	now := mark{clock.Of(mine, e.G), e.At}
	if e.Kind == api.EvWrite {
		d.keepWrite(e.Obj, now)
	} else {
		d.keepRead(e.Obj, now)
	}
}

// look adds the race of an access, if its place has none yet.
func (d *Detector) look(e api.Event, mine []int) {
	i, raced := slices.BinarySearchFunc(d.races, e.Obj, func(r api.Race, place int) int { return cmp.Compare(r.Place, place) })
	if raced {
		return
	}
	write := d.mark(d.pages[thing{ofPlace, e.Obj}] + lastWrite)
	r := api.Race{Place: e.Obj, Second: e.At, SecondW: e.Kind == api.EvWrite}
	if !write.AtMost(mine) {
		r.First, r.FirstW = write.at, true
		d.races = slices.Insert(d.races, i, r)
		return
	}
	if !r.SecondW {
		return
	}
	if read, is := d.unknown(e.Obj, mine); is {
		r.First = read.at
		d.races = slices.Insert(d.races, i, r)
	}
}

// unknown is of the EvReads since the last EvWrite that don't happen before an access the one of the least goroutine.
func (d *Detector) unknown(place int, mine []int) (mark, bool) {
	for _, m := range d.reads(place) {
		if !m.AtMost(mine) {
			return m, true
		}
	}
	return mark{}, false
}

// reads are the last EvReads of goroutines since the last EvWrite, by rising goroutines; those that aren't there have the count 0.
func (d *Detector) reads(place int) []mark {
	list := []mark{d.mark(d.pages[thing{ofPlace, place}] + onlyReader)}
	at, has := d.pages[thing{ofReaders, place}]
	if !has {
		return list
	}
	for g := range api.MaxGo {
		from := at + g*readWords
		list = append(list, mark{clock.Epoch{G: g, N: d.get(from + readN)}, d.get(from + readAt)})
	}
	return list
}

func (d *Detector) keepWrite(place int, now mark) {
	at := d.pages[thing{ofPlace, place}]
	d.setMark(at+lastWrite, now)
	d.setMark(at+onlyReader, mark{})
	if readers, has := d.pages[thing{ofReaders, place}]; has {
		for i := range api.PageWords {
			d.set(readers+i, 0)
		}
	}
}

func (d *Detector) keepRead(place int, now mark) {
	only := d.pages[thing{ofPlace, place}] + onlyReader
	readers, has := d.pages[thing{ofReaders, place}]
	if !has {
		d.setMark(only, now)
		return
	}
	// The only one up to here, if this is the second one.
	if m := d.mark(only); m.N > 0 {
		d.setRead(readers, m)
		d.setMark(only, mark{})
	}
	d.setRead(readers, now)
}

func (d *Detector) setRead(readers int, m mark) {
	d.set(readers+m.G*readWords+readN, m.N)
	d.set(readers+m.G*readWords+readAt, m.at)
}
