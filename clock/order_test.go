package clock_test

import (
	"slices"
	"testing"

	"stockade/api"
	"stockade/clock"
)

// The tests of P1.2: clocks are ordered by AtMost, with Join and Tick, on all clocks of up to 3 counts from -1 to 2.

func allClocks() [][]int {
	out := [][]int{nil}
	for from := 0; len(out[from]) < 3; from++ {
		for n := -1; n <= 2; n++ {
			out = append(out, append(slices.Clone(out[from]), n))
		}
	}
	return out
}

// counts is a clock told in another way than the program's, to hold its answers against.
func counts(c []int) [3]int {
	var out [3]int
	for i, n := range c {
		if n > 0 {
			out[i] = n
		}
	}
	return out
}

func TestAllPairsByCounts(t *testing.T) {
	for _, a := range allClocks() {
		for _, b := range allClocks() {
			x, y := counts(a), counts(b)
			below := x[0] <= y[0] && x[1] <= y[1] && x[2] <= y[2]
			above := y[0] <= x[0] && y[1] <= x[1] && y[2] <= x[2]
			checkCompare(t, a, b, below, above)
		}
	}
}

func TestEachIsAtMostItself(t *testing.T) {
	for _, a := range allClocks() {
		if !clock.AtMost(a, a) || !clock.Same(a, a) || clock.Apart(a, a) {
			t.Errorf("%v isn't at most itself", a)
		}
	}
}

func TestAtMostGoesOn(t *testing.T) {
	all := allClocks()
	for _, a := range all {
		for _, b := range all {
			if !clock.AtMost(a, b) {
				continue
			}
			for _, c := range all {
				if clock.AtMost(b, c) && !clock.AtMost(a, c) {
					t.Errorf("%v is at most %v, that at most %v, but the first isn't at most the last", a, b, c)
				}
			}
		}
	}
}

func TestAtMostEachOtherIsSame(t *testing.T) {
	for _, a := range allClocks() {
		for _, b := range allClocks() {
			both := clock.AtMost(a, b) && clock.AtMost(b, a)
			if both != clock.Same(a, b) || both != slices.Equal(clock.Short(a), clock.Short(b)) {
				t.Errorf("%v and %v: at most each other: %v", a, b, both)
			}
		}
	}
}

func TestJoinIsTheLeast(t *testing.T) {
	all := allClocks()
	for _, a := range all {
		for _, b := range all {
			j := clock.Join(a, b)
			if !clock.AtMost(a, j) || !clock.AtMost(b, j) {
				t.Errorf("%v and %v aren't both at most %v", a, b, j)
			}
			if !slices.Equal(j, clock.Short(j)) {
				t.Errorf("Join(%v, %v) = %v isn't in short form", a, b, j)
			}
			for _, c := range all {
				if clock.AtMost(a, c) && clock.AtMost(b, c) && !clock.AtMost(j, c) {
					t.Errorf("%v and %v are at most %v, but %v isn't", a, b, c, j)
				}
			}
		}
	}
}

func TestTickedIsAbove(t *testing.T) {
	for _, a := range allClocks() {
		for g := range api.MaxGo {
			k, err := clock.Tick(a, g)
			if err != nil || !clock.AtMost(a, k) || clock.AtMost(k, a) {
				t.Errorf("Tick(%v, %d) = %v, %v isn't above it", a, g, k, err)
			}
			if !slices.Equal(k, clock.Short(k)) {
				t.Errorf("Tick(%v, %d) = %v isn't in short form", a, g, k)
			}
			if clock.Of(k, g).AtMost(a) || !clock.Of(a, g).AtMost(k) {
				t.Errorf("the epochs of %v and %v, of goroutine %d", a, k, g)
			}
		}
	}
}

func TestTicksUpToTheBound(t *testing.T) {
	var c []int
	for n := range api.MaxCount {
		k, err := clock.Tick(c, 2)
		if err != nil || clock.Get(k, 2) != n+1 {
			t.Fatalf("tick %d: %v, %v", n+1, k, err)
		}
		c = k
	}
	if k, err := clock.Tick(c, 2); err != api.ErrClock || len(k) != 0 {
		t.Errorf("a tick past MaxCount: %v, %v", k, err)
	}
}
