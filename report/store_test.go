package report_test

import (
	"fmt"
	"math"
	"math/rand"
	"slices"
	"testing"

	"stockade/api"
	"stockade/report"
)

// The tests of P20.1 on stores.

// stepped is a report in form that its steps tell from others.
func stepped(steps int) api.Report {
	return api.Report{End: api.End{Outcome: api.Finished}, Steps: steps, Races: []api.Race{{Place: steps % 128, FirstW: true}}}
}

// stands holds all that a store tells against the model.
func stands(t *testing.T, s *report.Store, model *shelf) {
	t.Helper()
	if list := s.List(); !slices.Equal(list, model.numbers) {
		t.Fatal("List:", list, model.numbers)
	}
	if s.Full() != (len(model.numbers) == 8) {
		t.Fatal("Full:", s.Full(), model.numbers)
	}
	for n := -1; n <= model.given+2; n++ {
		fetched(t, s, model, n)
	}
}

func fetched(t *testing.T, s *report.Store, model *shelf, n int) {
	t.Helper()
	x, err := s.Get(n)
	want, wrong := model.get(n)
	if err != wrong || !alike(x, want) {
		t.Fatalf("Get of %d: %v, %v, not %v, %v", n, x, err, want, wrong)
	}
}

func added(t *testing.T, s *report.Store, model *shelf, x api.Report) {
	t.Helper()
	n, err := s.Add(x)
	want, wrong := model.add(x)
	if n != want || err != wrong {
		t.Fatalf("Add: %v, %v, not %v, %v", n, err, want, wrong)
	}
}

func deleted(t *testing.T, s *report.Store, model *shelf, n int) {
	t.Helper()
	err := s.Delete(n)
	if want := model.remove(n); err != want {
		t.Fatalf("Delete of %d: %v, not %v", n, err, want)
	}
}

func TestAStoreWithoutReports(t *testing.T) {
	s := report.New()
	if s.Full() || len(s.List()) != 0 {
		t.Error(s.Full(), s.List())
	}
	for _, n := range []int{math.MinInt, -1, 0, 1, 2, 8, math.MaxInt} {
		x, err := s.Get(n)
		if err != api.ErrNone || !alike(x, api.Report{}) || s.Delete(n) != api.ErrNone {
			t.Error(n, x, err)
		}
	}
	if n, err := s.Add(stepped(1)); n != 1 || err != nil {
		t.Error("refused Deletes changed the numbers:", n, err)
	}
}

func TestNumbersOfAStore(t *testing.T) {
	s := report.New()
	for n := 1; n <= 8; n++ {
		if s.Full() {
			t.Error("full ahead of", n)
		}
		if got, err := s.Add(stepped(n)); got != n || err != nil {
			t.Error(n, got, err)
		}
	}
	for range 3 {
		if n, err := s.Add(stepped(100)); n != 0 || err != api.ErrFull || !s.Full() {
			t.Error(n, err, s.Full())
		}
		if n, err := s.Add(api.Report{}); n != 0 || err != api.ErrCode || !s.Full() {
			t.Error("a report that isn't in form comes first:", n, err)
		}
	}
	for next := 9; next < 100; next++ {
		gone := next - 8
		if err := s.Delete(gone); err != nil || s.Full() {
			t.Error(gone, err, s.Full())
		}
		if _, err := s.Get(gone); err != api.ErrNone {
			t.Error(gone, err)
		}
		if err := s.Delete(gone); err != api.ErrNone {
			t.Error(gone, err)
		}
		if n, err := s.Add(api.Report{Steps: -1}); n != 0 || err != api.ErrCode {
			t.Error(n, err)
		}
		if n, err := s.Add(stepped(next)); n != next || err != nil {
			t.Error(next, n, err)
		}
		if x, err := s.Get(next); err != nil || !alike(x, stepped(next)) {
			t.Error(next, x, err)
		}
	}
}

// TestNoNumberTwice: when all are deleted, the last one too, the numbers go on.
func TestNoNumberTwice(t *testing.T) {
	s := report.New()
	for n := 1; n <= 50; n++ {
		if got, err := s.Add(stepped(n)); got != n || err != nil {
			t.Fatal(n, got, err)
		}
		if err := s.Delete(n); err != nil || len(s.List()) != 0 {
			t.Fatal(n, err, s.List())
		}
	}
}

// TestEveryOrderOfDeletes: 4 reports, deleted in each order, with an Add behind each Delete or none.
func TestEveryOrderOfDeletes(t *testing.T) {
	for order := range 4 * 4 * 4 * 4 {
		for adds := range 16 {
			s, model := report.New(), &shelf{}
			for n := range 4 {
				added(t, s, model, stepped(n))
			}
			for i, at := 0, order; i < 4; i, at = i+1, at/4 {
				deleted(t, s, model, 1+at%4)
				if adds>>i&1 == 1 {
					added(t, s, model, stepped(100+i))
				}
				stands(t, s, model)
			}
		}
	}
}

func TestNumbersThatAreNotHeld(t *testing.T) {
	s, model := report.New(), &shelf{}
	for n := range 10 {
		added(t, s, model, stepped(n))
	}
	deleted(t, s, model, 3)
	for _, n := range []int{math.MinInt, -1 << 32, -8, -1, 0, 3, 9, 10, 11, 1<<32 + 1, 1<<8 + 1, math.MaxInt, math.MinInt + 1} {
		if x, err := s.Get(n); err != api.ErrNone || !alike(x, api.Report{}) {
			t.Error(n, x, err)
		}
		if err := s.Delete(n); err != api.ErrNone {
			t.Error(n, err)
		}
		stands(t, s, model)
	}
}

// TestTwoStores: what is done with one doesn't change the other.
func TestTwoStores(t *testing.T) {
	a, b := report.New(), report.New()
	inA, inB := &shelf{}, &shelf{}
	for n := range 8 {
		added(t, a, inA, stepped(n))
		stands(t, b, inB)
	}
	added(t, b, inB, stepped(50))
	added(t, a, inA, stepped(51))
	deleted(t, a, inA, 1)
	stands(t, a, inA)
	stands(t, b, inB)
	deleted(t, b, inB, 1)
	deleted(t, b, inB, 2)
	stands(t, a, inA)
	stands(t, b, inB)
}

// TestStoreRandom: all calls in random orders, of two stores at a time, against the model.
func TestStoreRandom(t *testing.T) {
	r := rand.New(rand.NewSource(2007))
	seen := map[string]int{}
	for range many(600) {
		stores := []*report.Store{report.New(), report.New()}
		models := []*shelf{{}, {}}
		for range r.Intn(200) {
			i := r.Intn(2)
			tried(t, r, stores[i], models[i], seen)
		}
		stands(t, stores[0], models[0])
		stands(t, stores[1], models[1])
	}
	for _, what := range []string{"added", "full", "not in form", "not in form, and full", "deleted", "not there", "fetched"} {
		if seen[what] < many(2000) {
			t.Error("too few:", what, seen[what])
		}
	}
}

// tried does one call, and counts what it was.
func tried(t *testing.T, r *rand.Rand, s *report.Store, model *shelf, seen map[string]int) {
	t.Helper()
	is := len(model.numbers) == 8
	number := one(r, r.Intn(model.given+2), model.given-r.Intn(10), wide(r))
	switch r.Intn(8) {
	case 0, 1, 2:
		seen[map[bool]string{true: "full", false: "added"}[is]]++
		added(t, s, model, randomReport(r))
	case 3:
		x := randomReport(r)
		x.Races = append(x.Races, api.Race{Place: 127})
		seen["not in form"+map[bool]string{true: ", and full"}[is]]++
		added(t, s, model, x)
	case 4, 5:
		seen[map[bool]string{true: "deleted", false: "not there"}[slices.Contains(model.numbers, number)]]++
		deleted(t, s, model, number)
	case 6:
		seen["fetched"]++
		fetched(t, s, model, number)
	case 7:
		stands(t, s, model)
	}
}

// TestStoredAsBytes: what a store gives back has the bytes of what was added.
func TestStoredAsBytes(t *testing.T) {
	r := rand.New(rand.NewSource(2008))
	for range many(5000) {
		s, x := report.New(), randomReport(r)
		s.Add(x)
		y, _ := s.Get(1)
		b, err := report.Put(y)
		if err != nil || fmt.Sprint(b) != fmt.Sprint(modelBytes(x)) {
			t.Fatal(x, y, err)
		}
	}
}
