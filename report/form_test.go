package report_test

import (
	"math"
	"math/rand"
	"testing"

	"stockade/api"
	"stockade/report"
)

// The tests of P20.1 on what is in form: Check, and what Put and a store's Add refuse.

// asked holds Check, Put and Add of one report against what is expected, and against the model.
func asked(t *testing.T, name string, x api.Report, good bool) {
	t.Helper()
	if modelForm(x) != good {
		t.Fatalf("%s: the model says otherwise", name)
	}
	var want error
	number := 1
	if !good {
		want, number = api.ErrCode, 0
	}
	if err := report.Check(x); err != want {
		t.Errorf("%s: Check answered %v, not %v", name, err, want)
	}
	b, err := report.Put(x)
	if err != want || good && string(b) != string(modelBytes(x)) || !good && len(b) > 0 {
		t.Errorf("%s: Put answered %v, %v", name, b, err)
	}
	s := report.New()
	if n, err := s.Add(x); n != number || err != want || len(s.List()) != number {
		t.Errorf("%s: Add answered %v, %v, and it holds %v", name, n, err, s.List())
	}
}

// An edge is a number, and whether it is in form.
type edge struct {
	n    int
	good bool
}

// bounds are the edges of a field from least to most, and numbers that would fit if they were cut to some bytes.
func bounds(least, most int) []edge {
	return []edge{
		{least - 1, false}, {least, true}, {least + 1, true}, {most - 1, true}, {most, true}, {most + 1, false},
		{1<<8 + most, false}, {1 << 32, false}, {1<<32 + least, false}, {1<<32 + most, false}, {1<<62 + least, false},
		{math.MinInt, false}, {math.MinInt + least, false}, {math.MaxInt, false}, {-1 << 32, false}, {-1, false},
	}
}

// others are numbers that aren't 0.
func others() []int {
	return []int{-1, 1, 2, 7, 255, 256, 1 << 16, 1 << 32, -1 << 32, math.MinInt, math.MaxInt}
}

func faulted(fault int) api.Report {
	return api.Report{End: api.End{Outcome: api.Faulted, Fault: fault}}
}

func TestCheckOutcomes(t *testing.T) {
	for _, o := range []int{math.MinInt, -1, api.Running, 5, 6, 255, 257, 259, 260, 1<<32 + 1, 1<<32 + 3, math.MaxInt} {
		asked(t, "no outcome", api.Report{End: api.End{Outcome: o}}, false)
		asked(t, "no outcome, a fault", api.Report{End: api.End{Outcome: o, Fault: 1}}, false)
	}
	for _, o := range []int{api.Finished, api.Deadlock, api.FuelOut} {
		asked(t, "outcome without fault", api.Report{End: api.End{Outcome: o}}, true)
		for _, n := range others() {
			asked(t, "its Fault", api.Report{End: api.End{Outcome: o, Fault: n}}, false)
			asked(t, "its G", api.Report{End: api.End{Outcome: o, G: n}}, false)
			asked(t, "its N", api.Report{End: api.End{Outcome: o, N: n}}, false)
			asked(t, "its At", api.Report{End: api.End{Outcome: o, At: n}}, false)
			asked(t, "its Fault and N", api.Report{End: api.End{Outcome: o, Fault: api.FaultFail, N: n}}, false)
		}
	}
	asked(t, "the zero value", api.Report{}, false)
}

func TestCheckFaults(t *testing.T) {
	for _, e := range bounds(1, 7) {
		asked(t, "Fault", faulted(e.n), e.good)
	}
	asked(t, "Fault 0", faulted(0), false)
	for fault := 1; fault <= 7; fault++ {
		for _, e := range bounds(0, api.MaxGo-1) {
			x := faulted(fault)
			x.End.G = e.n
			asked(t, "G", x, e.good)
		}
		for _, e := range bounds(0, api.MaxText) {
			x := faulted(fault)
			x.End.At = e.n
			asked(t, "At", x, e.good)
		}
		for _, n := range others() {
			x := faulted(fault)
			x.End.N = n
			asked(t, "N", x, fault == api.FaultFail)
		}
	}
}

func TestCheckSteps(t *testing.T) {
	for o := api.Finished; o <= api.FuelOut; o++ {
		for _, e := range bounds(0, api.MaxFuel+1) {
			x := api.Report{End: api.End{Outcome: o}, Steps: e.n}
			if o == api.Faulted {
				x.End.Fault = api.FaultIndex
			}
			asked(t, "Steps", x, e.good)
		}
	}
}

// placed is a report with races of these places.
func placed(places ...int) api.Report {
	x := api.Report{End: api.End{Outcome: api.Finished}}
	for _, p := range places {
		x.Races = append(x.Races, api.Race{Place: p, SecondW: true})
	}
	return x
}

func TestCheckPlaces(t *testing.T) {
	for _, e := range bounds(0, api.MaxPlaces-1) {
		asked(t, "one place", placed(e.n), e.good)
	}
	for _, c := range []struct {
		places []int
		good   bool
	}{
		{nil, true}, {[]int{}, true}, {[]int{0, 127}, true}, {[]int{0, 1, 2}, true}, {[]int{126, 127}, true},
		{[]int{-1, 0}, false}, {[]int{127, 128}, false}, {[]int{126, 127, 128}, false},
		{[]int{0, 0}, false}, {[]int{5, 5}, false}, {[]int{127, 127}, false}, {[]int{1, 2, 2, 3}, false},
		{[]int{1, 0}, false}, {[]int{127, 0}, false}, {[]int{3, 4, 2}, false}, {[]int{3, 9, 8, 10}, false}, {[]int{9, 3, 10}, false},
		{[]int{4, math.MinInt}, false}, {[]int{math.MinInt, 4}, false}, {[]int{4, math.MaxInt}, false}, {[]int{math.MaxInt, 4}, false},
		{[]int{math.MaxInt, math.MinInt}, false},
	} {
		asked(t, "places", placed(c.places...), c.good)
	}
}

func TestCheckHowManyRaces(t *testing.T) {
	var all []int
	for n := 0; n <= api.MaxPlaces; n++ {
		asked(t, "places from 0 on", placed(all...), true)
		all = append(all, n)
	}
	asked(t, "one place more", placed(all...), false)
	all[api.MaxPlaces] = api.MaxPlaces - 1
	asked(t, "the last place twice", placed(all...), false)
	asked(t, "full", full(), true)
	x := full()
	x.Races = append(x.Races, x.Races...)
	asked(t, "full twice", x, false)
	x.Races = make([]api.Race, 1<<20)
	asked(t, "many races of place 0", x, false)
}

// TestCheckRaces: each race of a report counts, the first and the last one too.
func TestCheckRaces(t *testing.T) {
	change := func(i int, f func(*api.Race)) api.Report {
		x := placed(3, 4, 9)
		f(&x.Races[i])
		return x
	}
	for i := range 3 {
		for _, e := range bounds(0, api.MaxText) {
			asked(t, "First", change(i, func(c *api.Race) { c.First = e.n }), e.good)
			asked(t, "Second", change(i, func(c *api.Race) { c.Second = e.n }), e.good)
		}
		asked(t, "no write", change(i, func(c *api.Race) { c.FirstW, c.SecondW = false, false }), false)
		asked(t, "first writes", change(i, func(c *api.Race) { c.FirstW, c.SecondW = true, false }), true)
		asked(t, "second writes", change(i, func(c *api.Race) { c.FirstW, c.SecondW = false, true }), true)
		asked(t, "both write", change(i, func(c *api.Race) { c.FirstW, c.SecondW = true, true }), true)
	}
}

// TestCheckRandom: reports in form, and such of which a field or two were changed, against the model.
func TestCheckRandom(t *testing.T) {
	r := rand.New(rand.NewSource(2001))
	good, bad := 0, 0
	for range many(60000) {
		x := randomReport(r)
		asked(t, "a random report", x, true)
		for range 1 + r.Intn(2) {
			x = spoilt(r, x)
		}
		if modelForm(x) {
			good++
		} else {
			bad++
		}
		asked(t, "a changed report", x, modelForm(x))
	}
	if good < many(5000) || bad < many(5000) {
		t.Error("too few of a kind:", good, bad)
	}
}
