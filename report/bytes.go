package report

import (
	"slices"

	"stockade/api"
)

// How many bytes a field has.
const (
	byteSize  = 1
	pairSize  = 2
	placeSize = 4
	wideSize  = 8

	headSize = 3*byteSize + wideSize + 2*placeSize + pairSize
	raceSize = pairSize + 2*placeSize + byteSize
)

// What a race's last byte adds up.
const (
	firstBit  = 1
	secondBit = 2
)

// A writer writes a report in form: no number of it is too great for its bytes.
type writer struct {
	out []byte
}

// number writes a number in so many bytes, the high one first.
func (w *writer) number(size, n int) {
	for i := size - 1; i >= 0; i-- {
		w.out = append(w.out, byte(uint64(n)>>(8*i)))
	}
}

func (w *writer) report(r api.Report) {
	w.number(byteSize, r.End.Outcome)
	w.number(byteSize, r.End.Fault)
	w.number(byteSize, r.End.G)
	w.number(wideSize, r.End.N)
	w.number(placeSize, r.End.At)
	w.number(placeSize, r.Steps)
	w.number(pairSize, len(r.Races))
	for _, c := range r.Races {
		w.race(c)
	}
}

func (w *writer) race(c api.Race) {
	w.number(pairSize, c.Place)
	w.number(placeSize, c.First)
	w.number(placeSize, c.Second)
	writes := 0
	if c.FirstW {
		writes += firstBit
	}
	if c.SecondW {
		writes += secondBit
	}
	w.number(byteSize, writes)
}

// A reader reads numbers, as long as there are bytes enough: who reads knows that beforehand.
type reader struct {
	rest []byte
}

func (r *reader) number(size int) int {
	var n uint64
	for _, b := range r.rest[:size] {
		n = n<<8 | uint64(b)
	}
	r.rest = r.rest[size:]
	return int(n)
}

// read reads a report whose numbers may be any; false, if the bytes aren't as many as they tell, or a race's last byte isn't one that is written.
func read(b []byte) (api.Report, bool) {
	if len(b) < headSize {
		return api.Report{}, false
	}
	head, rest := reader{b[:headSize]}, b[headSize:]
	r := head.ends()
	if len(rest) != head.number(pairSize)*raceSize {
		return api.Report{}, false
	}
	for chunk := range slices.Chunk(rest, raceSize) {
		part := reader{chunk}
		c, ok := part.race()
		if !ok {
			return api.Report{}, false
		}
		r.Races = append(r.Races, c)
	}
	return r, true
}

// ends reads what stands ahead of the races and of how many there are.
func (r *reader) ends() api.Report {
	return api.Report{
		End: api.End{
			Outcome: r.number(byteSize),
			Fault:   r.number(byteSize),
			G:       r.number(byteSize),
			N:       r.number(wideSize),
			At:      r.number(placeSize),
		},
		Steps: r.number(placeSize),
	}
}

func (r *reader) race() (api.Race, bool) {
	c := api.Race{
		Place:  r.number(pairSize),
		First:  r.number(placeSize),
		Second: r.number(placeSize),
	}
	writes := r.number(byteSize)
	c.FirstW = writes&firstBit != 0
	c.SecondW = writes&secondBit != 0
	return c, writes <= firstBit+secondBit
}
