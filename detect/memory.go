package detect

import (
	"stockade/api"
	"stockade/clock"
)

// A memory is where pages are allocated: an arena is one.
type memory interface {
	Alloc(words int) (int, error)
	Free(at int) error
	Get(at int) (int, error)
	Set(at, v int) error
}

// endless is a memory that always has enough, of which nothing is freed.
type endless struct {
	words []int
}

func (m *endless) Alloc(words int) (int, error) {
	at := len(m.words)
	m.words = append(m.words, make([]int, words)...)
	return at, nil
}

func (m *endless) Free(at int) error {
	return api.ErrNone
}

func (m *endless) Get(at int) (int, error) {
	return m.words[at], nil
}

func (m *endless) Set(at, v int) error {
	m.words[at] = v
	return nil
}

// get is a word; 0 if it is in no run any more, for what the arena's other users free is none of the detector's.
func (d *Detector) get(at int) int {
	v, err := d.memory.Get(at)
	if err != nil {
		return 0
	}
	return v
}

func (d *Detector) set(at, v int) {
	d.memory.Set(at, v)
}

// clockAt is the clock that stands in the MaxGo words from an address on.
func (d *Detector) clockAt(at int) []int {
	c := make([]int, api.MaxGo)
	for g := range c {
		c[g] = d.get(at + g)
	}
	return c
}

// clockOf is the clock at the beginning of a thing's pages; none, if it has no pages yet.
func (d *Detector) clockOf(t thing) []int {
	at, has := d.pages[t]
	if !has {
		return nil
	}
	return d.clockAt(at)
}

func (d *Detector) setClock(at int, c []int) {
	for g := range api.MaxGo {
		d.set(at+g, clock.Get(c, g))
	}
}

func (d *Detector) joinClock(at int, c []int) {
	d.setClock(at, clock.Join(d.clockAt(at), c))
}
