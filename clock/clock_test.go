package clock_test

import (
	"math"
	"slices"
	"testing"

	"stockade/api"
	"stockade/clock"
)

// The tests of P1.1: every call answers what is told, of all lists.

func TestShort(t *testing.T) {
	for _, x := range []struct{ in, want []int }{
		{nil, nil},
		{[]int{}, nil},
		{[]int{0}, nil},
		{[]int{0, 0, 0}, nil},
		{[]int{-1}, nil},
		{[]int{math.MinInt, -7, 0}, nil},
		{[]int{1, 2, 3}, []int{1, 2, 3}},
		{[]int{1, -2, 0}, []int{1}},
		{[]int{0, 0, 4, 0, -1}, []int{0, 0, 4}},
		{[]int{-3, 5, -3, 6, -3}, []int{0, 5, 0, 6}},
		{[]int{0, 0, 0, 0, 0, 0, 0, 0, 0, 9, 0}, []int{0, 0, 0, 0, 0, 0, 0, 0, 0, 9}},
		{[]int{math.MaxInt, math.MinInt, math.MaxInt}, []int{math.MaxInt, 0, math.MaxInt}},
	} {
		if got := clock.Short(x.in); !slices.Equal(got, x.want) {
			t.Errorf("Short(%v) = %v, want %v", x.in, got, x.want)
		}
	}
}

func TestGet(t *testing.T) {
	c := []int{3, -2, 0, math.MaxInt, math.MinInt, 1, 2, 3, 4, 5}
	for _, x := range []struct{ g, want int }{
		{math.MinInt, 0}, {-1, 0}, {0, 3}, {1, 0}, {2, 0}, {3, math.MaxInt}, {4, 0},
		{7, 3}, {8, 4}, {9, 5}, {10, 0}, {math.MaxInt, 0},
	} {
		if got := clock.Get(c, x.g); got != x.want {
			t.Errorf("Get(%v, %d) = %d, want %d", c, x.g, got, x.want)
		}
		if got := clock.Get(nil, x.g); got != 0 {
			t.Errorf("Get(nil, %d) = %d, want 0", x.g, got)
		}
	}
}

func TestGetIgnoresSpareRoom(t *testing.T) {
	c := []int{1, 2, 3}[:1]
	if got := clock.Get(c, 1); got != 0 {
		t.Errorf("Get past the end, within the spare room, is %d, want 0", got)
	}
}

func TestTick(t *testing.T) {
	for _, x := range []struct {
		in   []int
		g    int
		want []int
	}{
		{[]int{0, 0}, 1, []int{0, 1}},
		{[]int{0, 0}, 0, []int{1}},
		{nil, 0, []int{1}},
		{[]int{}, 3, []int{0, 0, 0, 1}},
		{nil, api.MaxGo - 1, []int{0, 0, 0, 0, 0, 0, 0, 1}},
		{[]int{4, 5, 6}, 0, []int{5, 5, 6}},
		{[]int{4, 5, 6, 0}, 1, []int{4, 6, 6}},
		{[]int{-9}, 0, []int{1}},
		{[]int{math.MinInt, -1, 2, -1}, 0, []int{1, 0, 2}},
		{[]int{api.MaxCount - 1}, 0, []int{api.MaxCount}},
		{[]int{api.MaxCount, 1}, 1, []int{api.MaxCount, 2}},
		{[]int{math.MaxInt, 1}, 1, []int{math.MaxInt, 2}},
		{[]int{0, 0, 0, 0, 0, 0, 0, 0, math.MaxInt, 0}, 7, []int{0, 0, 0, 0, 0, 0, 0, 1, math.MaxInt}},
	} {
		got, err := clock.Tick(x.in, x.g)
		if err != nil || !slices.Equal(got, x.want) {
			t.Errorf("Tick(%v, %d) = %v, %v, want %v", x.in, x.g, got, err, x.want)
		}
	}
}

func TestTickRefuses(t *testing.T) {
	long := slices.Repeat([]int{api.MaxCount}, api.MaxGo+2)
	for _, x := range []struct {
		in   []int
		g    int
		want error
	}{
		{nil, -1, api.ErrRange},
		{nil, math.MinInt, api.ErrRange},
		{nil, api.MaxGo, api.ErrRange},
		{nil, math.MaxInt, api.ErrRange},
		{[]int{1, 2}, -1, api.ErrRange},
		{[]int{api.MaxCount}, 0, api.ErrClock},
		{[]int{api.MaxCount + 1}, 0, api.ErrClock},
		{[]int{0, math.MaxInt}, 1, api.ErrClock},
		{long, api.MaxGo - 1, api.ErrClock},
		{long, api.MaxGo, api.ErrRange},
		{long, -1, api.ErrRange},
	} {
		got, err := clock.Tick(x.in, x.g)
		if err != x.want || len(got) != 0 {
			t.Errorf("Tick(%v, %d) = %v, %v, want nothing and %v", x.in, x.g, got, err, x.want)
		}
	}
}

func TestJoin(t *testing.T) {
	for _, x := range []struct{ a, b, want []int }{
		{nil, nil, nil},
		{[]int{0}, []int{0, 0}, nil},
		{[]int{-1, -2}, []int{-3}, nil},
		{[]int{3, 0}, []int{1, 1}, []int{3, 1}},
		{[]int{3}, []int{0, 1}, []int{3, 1}},
		{nil, []int{2, 0, 0}, []int{2}},
		{[]int{1, 0, -4}, []int{-1, 0, 0, 0}, []int{1}},
		{[]int{0, 7}, []int{0, 7}, []int{0, 7}},
		{[]int{math.MaxInt}, []int{math.MinInt, math.MaxInt}, []int{math.MaxInt, math.MaxInt}},
		{[]int{0, 0, 0, 0, 0, 0, 0, 0, 1}, []int{2}, []int{2, 0, 0, 0, 0, 0, 0, 0, 1}},
	} {
		if got := clock.Join(x.a, x.b); !slices.Equal(got, x.want) {
			t.Errorf("Join(%v, %v) = %v, want %v", x.a, x.b, got, x.want)
		}
		if got := clock.Join(x.b, x.a); !slices.Equal(got, x.want) {
			t.Errorf("Join(%v, %v) = %v, want %v", x.b, x.a, got, x.want)
		}
	}
}

func TestCompare(t *testing.T) {
	for _, x := range []struct {
		a, b         []int
		below, above bool
	}{
		{nil, nil, true, true},
		{nil, []int{}, true, true},
		{[]int{0, -1}, nil, true, true},
		{[]int{-5}, []int{math.MinInt, 0}, true, true},
		{[]int{1}, []int{1, 0}, true, true},
		{[]int{1, -1}, []int{1, 0, -2}, true, true},
		{[]int{3}, []int{3, 1}, true, false},
		{nil, []int{0, 0, 1}, true, false},
		{[]int{1, 2}, []int{2, 2}, true, false},
		{[]int{3}, []int{0, 1}, false, false},
		{[]int{1, 2}, []int{2, 1}, false, false},
		{[]int{1, 0, 0, 0, 0, 0, 0, 0, 0, 1}, []int{2}, false, false},
		{[]int{math.MaxInt - 1}, []int{math.MaxInt}, true, false},
	} {
		checkCompare(t, x.a, x.b, x.below, x.above)
		checkCompare(t, x.b, x.a, x.above, x.below)
	}
}

func checkCompare(t *testing.T, a, b []int, below, above bool) {
	t.Helper()
	if got := clock.AtMost(a, b); got != below {
		t.Errorf("AtMost(%v, %v) = %v", a, b, got)
	}
	if got := clock.Apart(a, b); got != (!below && !above) {
		t.Errorf("Apart(%v, %v) = %v", a, b, got)
	}
	if got := clock.Same(a, b); got != (below && above) {
		t.Errorf("Same(%v, %v) = %v", a, b, got)
	}
}

func TestOf(t *testing.T) {
	c := []int{3, -2, 0, 7}
	for _, x := range []struct{ g, n int }{
		{0, 3}, {1, 0}, {2, 0}, {3, 7}, {4, 0}, {-1, 0}, {math.MinInt, 0}, {math.MaxInt, 0},
	} {
		if got := clock.Of(c, x.g); got != (clock.Epoch{G: x.g, N: x.n}) {
			t.Errorf("Of(%v, %d) = %v", c, x.g, got)
		}
	}
	if got := clock.Of(nil, 2); got != (clock.Epoch{G: 2}) {
		t.Errorf("Of(nil, 2) = %v", got)
	}
}

func TestEpochAtMost(t *testing.T) {
	c := []int{3, -2, 0, math.MaxInt}
	for _, x := range []struct {
		g, n int
		want bool
	}{
		{0, 2, true}, {0, 3, true}, {0, 4, false}, {0, -1, true},
		{1, 0, true}, {1, 1, false}, {1, -1, true}, {1, -3, true},
		{2, 0, true}, {2, 1, false},
		{3, math.MaxInt, true},
		{4, 0, true}, {4, 1, false}, {4, math.MinInt, true},
		{math.MaxInt, 0, true}, {math.MaxInt, 1, false},
		{-1, 0, true}, {-1, -5, true}, {-1, 1, false},
		{math.MinInt, 0, true}, {math.MinInt, 1, false},
	} {
		e := clock.Epoch{G: x.g, N: x.n}
		if got := e.AtMost(c); got != x.want {
			t.Errorf("%v at most %v: %v", e, c, got)
		}
	}
	if (clock.Epoch{G: 0, N: 1}).AtMost(nil) || !(clock.Epoch{}).AtMost(nil) {
		t.Error("an epoch against the empty clock")
	}
}

// answers are those calls whose answer is a clock, each of one argument.
func answers() map[string]func(c []int) []int {
	return map[string]func(c []int) []int{
		"Short": clock.Short,
		"Tick": func(c []int) []int {
			out, _ := clock.Tick(c, 0)
			return out
		},
		"Tick past the end": func(c []int) []int {
			out, _ := clock.Tick(c, 5)
			return out
		},
		"Join, left":  func(c []int) []int { return clock.Join(c, []int{1}) },
		"Join, right": func(c []int) []int { return clock.Join(nil, c) },
		"Join, both":  func(c []int) []int { return clock.Join(c, c) },
	}
}

func TestArgumentsStayApart(t *testing.T) {
	for name, call := range answers() {
		for _, in := range [][]int{{4, 5, 6}, {-1, 2, 0}, {0, 0, 0}, {1, 2, -3}} {
			room := append(slices.Clone(in), 70, 71, 72, 73, 74, 75)
			before := slices.Clone(room)
			out := call(room[:len(in)])
			if !slices.Equal(room, before) {
				t.Errorf("%s of %v changed what was handed in: %v", name, in, room)
			}
			out = out[:cap(out)]
			for i := range out {
				out[i] = 99
			}
			if !slices.Equal(room, before) {
				t.Errorf("%s of %v answered memory that was handed in", name, in)
			}
		}
	}
}

func TestRefusedTickChangesNothing(t *testing.T) {
	c := []int{api.MaxCount, -1, 0}
	for _, g := range []int{-1, 0, api.MaxGo} {
		if _, err := clock.Tick(c, g); err == nil {
			t.Errorf("Tick(%v, %d) was taken", c, g)
		}
	}
	if !slices.Equal(c, []int{api.MaxCount, -1, 0}) {
		t.Errorf("a refused Tick changed what was handed in: %v", c)
	}
}
