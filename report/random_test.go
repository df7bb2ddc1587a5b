package report_test

import (
	"math"
	"math/rand"
	"slices"
	"testing"

	"stockade/api"
)

// many is how many rounds a random test has.
func many(n int) int {
	if testing.Short() {
		return n / 10
	}
	return n
}

// one of a list's elements.
func one[T any](r *rand.Rand, list ...T) T {
	return list[r.Intn(len(list))]
}

// edged is a number from 0 to most, at its ends oftener.
func edged(r *rand.Rand, most int) int {
	if r.Intn(4) == 0 {
		return one(r, 0, most)
	}
	return r.Intn(most + 1)
}

// wide is any number.
func wide(r *rand.Rand) int {
	if r.Intn(4) == 0 {
		return one(r, math.MinInt, math.MaxInt, -1, 0, 1, 255, 256, -256)
	}
	return int(r.Uint64()) >> r.Intn(64)
}

// randomEnd is an end in form.
func randomEnd(r *rand.Rand) api.End {
	if r.Intn(2) == 0 {
		return api.End{Outcome: one(r, api.Finished, api.Deadlock, api.FuelOut)}
	}
	e := api.End{Outcome: api.Faulted, Fault: 1 + r.Intn(7), G: edged(r, 7), At: edged(r, 8192)}
	if e.Fault == api.FaultFail {
		e.N = wide(r)
	}
	return e
}

func randomRace(r *rand.Rand, place int) api.Race {
	c := api.Race{Place: place, First: edged(r, 8192), Second: edged(r, 8192)}
	way := 1 + r.Intn(3)
	c.FirstW, c.SecondW = way != 2, way != 1
	return c
}

// randomReport is a report in form.
func randomReport(r *rand.Rand) api.Report {
	x := api.Report{End: randomEnd(r), Steps: edged(r, api.MaxFuel+1)}
	places := r.Perm(api.MaxPlaces)[:one(r, 0, 1, 2, 3, r.Intn(20), edged(r, api.MaxPlaces))]
	slices.Sort(places)
	for _, p := range places {
		x.Races = append(x.Races, randomRace(r, p))
	}
	return x
}

// spoilt changes one field of a report to any number; it may be in form still.
func spoilt(r *rand.Rand, x api.Report) api.Report {
	x = own(x)
	n := one(r, wide(r), edged(r, 8), edged(r, 128), edged(r, 8193), edged(r, 65538), 1<<32+edged(r, 10), 256+edged(r, 10))
	field := r.Intn(10)
	if field > 5 && len(x.Races) == 0 {
		x.Races = []api.Race{randomRace(r, r.Intn(128))}
	}
	switch field {
	case 0:
		x.End.Outcome = n
	case 1:
		x.End.Fault = n
	case 2:
		x.End.G = n
	case 3:
		x.End.N = n
	case 4:
		x.End.At = n
	case 5:
		x.Steps = n
	case 6:
		x.Races[r.Intn(len(x.Races))].Place = n
	case 7:
		x.Races[r.Intn(len(x.Races))].First = n
	case 8:
		x.Races[r.Intn(len(x.Races))].Second = n
	case 9:
		c := &x.Races[r.Intn(len(x.Races))]
		c.FirstW, c.SecondW = r.Intn(2) == 0, r.Intn(2) == 0
	}
	return x
}

// full is a report in form with MaxPlaces races.
func full() api.Report {
	x := api.Report{End: api.End{Outcome: api.Deadlock}, Steps: 9}
	for p := range api.MaxPlaces {
		x.Races = append(x.Races, api.Race{Place: p, First: p * 64, Second: 8192 - p, FirstW: p%3 != 0, SecondW: p%3 != 1})
	}
	return x
}
