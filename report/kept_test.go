package report_test

import (
	"bytes"
	"fmt"
	"math/rand"
	"slices"
	"testing"

	"stockade/api"
	"stockade/report"
)

// The tests of P20.1 on what is handed in and what is answered: nothing is changed, kept or shared.

// roomy is a copy of a list with elements behind it that are none of the list's.
func roomy[T any](list []T, behind ...T) []T {
	return append(slices.Clone(list), behind...)[:len(list)]
}

// whole tells a list with what stands in its spare room.
func whole[T any](list []T) string {
	return fmt.Sprint(list, list[:cap(list)])
}

// scrawl writes over a list, and over its spare room.
func scrawl[T any](list []T, what T) {
	list = list[:cap(list)]
	for i := range list {
		list[i] = what
	}
}

var junk = api.Race{Place: 5, First: -7, Second: 77777, FirstW: true}

// behindRoom is a report whose races have spare room.
func behindRoom(x api.Report) api.Report {
	x.Races = roomy(x.Races, api.Race{Place: 126, FirstW: true}, junk)
	return x
}

// TestNothingIsChanged: neither races nor bytes, be these in form or not.
func TestNothingIsChanged(t *testing.T) {
	r := rand.New(rand.NewSource(2004))
	s := report.New()
	for range many(20000) {
		x := behindRoom(randomReport(r))
		if r.Intn(3) == 0 {
			x = behindRoom(spoilt(r, x))
		}
		races := whole(x.Races)
		report.Check(x)
		report.Put(x)
		if s.Full() {
			s.Delete(s.List()[r.Intn(8)])
		}
		s.Add(x)
		if whole(x.Races) != races {
			t.Fatal("races changed:", whole(x.Races), races)
		}
		b := roomy(modelBytes(x), 1, 2, 3)
		if r.Intn(3) == 0 {
			b = roomy(changed(r, b), 1, 2, 3)
		}
		told := whole(b)
		report.Get(b)
		if whole(b) != told {
			t.Fatal("bytes changed:", whole(b), told)
		}
	}
}

// TestBytesAreApart: what Put and Get answer shares nothing with what they were handed, nor with one another's answers.
func TestBytesAreApart(t *testing.T) {
	r := rand.New(rand.NewSource(2005))
	for range many(10000) {
		x := randomReport(r)
		handed := behindRoom(x)
		b, _ := report.Put(handed)
		b2, _ := report.Put(handed)
		scrawl(handed.Races, junk)
		scrawl(b2, 0xee)
		if !bytes.Equal(b, modelBytes(x)) {
			t.Fatal("Put shares:", b)
		}
		c := roomy(b, 9, 9, 9)
		y, _ := report.Get(c)
		z, _ := report.Get(c)
		scrawl(c, 0xee)
		scrawl(z.Races, junk)
		if !alike(x, y) {
			t.Fatal("Get shares:", y)
		}
	}
}

// TestStoreIsApart: neither a report that was added, nor one that was answered, nor a list, is shared with the store.
func TestStoreIsApart(t *testing.T) {
	r := rand.New(rand.NewSource(2006))
	for range many(5000) {
		s, model := report.New(), &shelf{}
		for range 1 + r.Intn(8) {
			x := randomReport(r)
			handed := behindRoom(x)
			s.Add(handed)
			model.add(x)
			scrawl(handed.Races, junk)
		}
		for range 3 {
			list := s.List()
			if !slices.Equal(list, model.numbers) {
				t.Fatal(list, model.numbers)
			}
			for _, n := range model.numbers {
				x, err := s.Get(n)
				want, _ := model.get(n)
				if err != nil || !alike(x, want) {
					t.Fatal(n, x, err, want)
				}
				scrawl(x.Races, junk)
			}
			scrawl(list, -5)
		}
	}
}

// TestOneReportTwice: a report that was added twice with the same races is held twice.
func TestOneReportTwice(t *testing.T) {
	s := report.New()
	x := full()
	s.Add(x)
	s.Add(x)
	a, _ := s.Get(1)
	scrawl(a.Races, junk)
	if b, err := s.Get(2); err != nil || !alike(b, full()) {
		t.Error(b, err)
	}
	if s.Delete(1) != nil {
		t.Error("1 isn't held")
	}
	if b, err := s.Get(2); err != nil || !alike(b, full()) {
		t.Error(b, err)
	}
}
