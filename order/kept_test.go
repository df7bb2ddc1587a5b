package order_test

import (
	"fmt"
	"math"
	"math/rand"
	"slices"
	"testing"

	"stockade/api"
	"stockade/order"
)

// The tests of P18.1 on what is handed in and what is answered: nothing is changed, kept or shared.

// roomy is a copy of a list with elements behind it that are none of the list's.
func roomy[T any](list []T, behind ...T) []T {
	return append(slices.Clone(list), behind...)[:len(list)]
}

// whole tells a list with what stands in its spare room.
func whole[T any](list []T) string {
	return fmt.Sprint(list, list[:cap(list)])
}

// answers tells what all calls answer.
func answers(trace []api.Event, rooms []int, a, b int) string {
	return fmt.Sprint(order.Check(trace)) + fmt.Sprint(order.Clocks(trace, rooms)) + fmt.Sprint(order.Before(trace, rooms, a, b)) + fmt.Sprint(order.Races(trace, rooms))
}

// TestNothingIsChanged: neither the trace nor the rooms nor races, be the trace in form or not.
func TestNothingIsChanged(t *testing.T) {
	r := rand.New(rand.NewSource(185))
	for range many(4000) {
		trace := roomy(randomTrace(r, r.Intn(20)), api.Event{G: 9, Kind: 2, Obj: 3, At: 4}, api.Event{Kind: 1})
		rooms := roomy(randomRooms(r), 77, 78)
		if r.Intn(4) == 0 && len(trace) > 0 {
			trace[r.Intn(len(trace))].G = 8
		}
		before, roomsBefore := whole(trace), whole(rooms)
		first := answers(trace, rooms, r.Intn(20), r.Intn(20))
		if whole(trace) != before || whole(rooms) != roomsBefore {
			t.Fatalf("now it is %s, %s, and it was %s, %s", whole(trace), whole(rooms), before, roomsBefore)
		}
		races, _ := order.Races(trace, rooms)
		races = roomy(races, api.Race{Place: 5})
		racesBefore := whole(races)
		if !order.Same(races, races) || whole(races) != racesBefore {
			t.Fatalf("now it is %s, and it was %s, %s", whole(races), racesBefore, first)
		}
	}
}

// TestSpareRoom: what stands behind a list's end doesn't matter.
func TestSpareRoom(t *testing.T) {
	r := rand.New(rand.NewSource(186))
	for range many(2000) {
		trace, rooms := randomTrace(r, r.Intn(20)), randomRooms(r)
		a, b := r.Intn(20), r.Intn(20)
		want := answers(trace, rooms, a, b)
		if got := answers(roomy(trace, randomTrace(r, 5)...), roomy(rooms, 1, 2, 3), a, b); got != want {
			t.Fatalf("%s, rooms %v\n got %s\nwant %s", told(trace), rooms, got, want)
		}
	}
}

// TestOwnAnswers: what one call answered isn't changed by what is done with it, with what was handed in, or by later calls.
func TestOwnAnswers(t *testing.T) {
	r := rand.New(rand.NewSource(187))
	for range many(2000) {
		trace, rooms := randomTrace(r, 1+r.Intn(20)), randomRooms(r)
		clocks, _ := order.Clocks(trace, rooms)
		races, _ := order.Races(trace, rooms)
		told := clocksText(clocks) + racesText(races)
		others, _ := order.Clocks(trace, rooms)
		otherRaces, _ := order.Races(trace, rooms)
		for _, c := range others {
			for i := range c[:cap(c)] {
				c[:cap(c)][i] = -5
			}
		}
		clear(others[:cap(others)])
		clear(otherRaces[:cap(otherRaces)])
		if got := clocksText(clocks) + racesText(races); got != told {
			t.Fatalf("now it is %s, and it was %s", got, told)
		}
		clear(trace)
		clear(rooms)
		if got := clocksText(clocks) + racesText(races); got != told {
			t.Fatalf("now it is %s, and it was %s", got, told)
		}
	}
}

// TestClocksApart: no two clocks of one answer share anything, spare room included.
func TestClocksApart(t *testing.T) {
	r := rand.New(rand.NewSource(188))
	for range many(2000) {
		clocks, _ := order.Clocks(randomTrace(r, 1+r.Intn(20)), randomRooms(r))
		i := r.Intn(len(clocks))
		rest := slices.Delete(slices.Clone(clocks), i, i+1)
		before := clocksText(rest)
		for j := range clocks[i][:cap(clocks[i])] {
			clocks[i][:cap(clocks[i])][j] = math.MinInt
		}
		if got := clocksText(rest); got != before {
			t.Fatalf("now it is %s, and it was %s", got, before)
		}
	}
}

// TestNilAndEmptyRooms mean the same, as do rooms of 0 that aren't told.
func TestNilAndEmptyRooms(t *testing.T) {
	r := rand.New(rand.NewSource(189))
	for range many(2000) {
		trace := randomTrace(r, r.Intn(20))
		want := answers(trace, nil, 1, 3)
		for _, rooms := range [][]int{{}, {0}, {0, 0, 0, 0}, {-1, math.MinInt}} {
			if got := answers(trace, rooms, 1, 3); got != want {
				t.Fatalf("%s, rooms %v\n got %s\nwant %s", told(trace), rooms, got, want)
			}
		}
	}
}

// TestSameAgain: a call answers the same, however often it is asked.
func TestSameAgain(t *testing.T) {
	r := rand.New(rand.NewSource(180))
	for range many(300) {
		trace, rooms := randomTrace(r, r.Intn(60)), randomRooms(r)
		want := answers(trace, rooms, 0, 5)
		for range 10 {
			if got := answers(trace, rooms, 0, 5); got != want {
				t.Fatalf("%s, rooms %v\n got %s\nwant %s", told(trace), rooms, got, want)
			}
		}
	}
}
