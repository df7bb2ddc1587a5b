package order_test

import (
	"math"
	"slices"
	"testing"

	"stockade/api"
	"stockade/order"
)

// The tests of P18.1 on a trace's form, and on what isn't there.

// checkRefused asks for ErrRange of all calls, with nothing beside it.
func checkRefused(t *testing.T, trace []api.Event) {
	t.Helper()
	if err := order.Check(trace); err != api.ErrRange {
		t.Errorf("%v: Check = %v", trace, err)
	}
	for _, rooms := range [][]int{nil, {0}, {1, 2}, {-1}} {
		if c, err := order.Clocks(trace, rooms); len(c) > 0 || err != api.ErrRange {
			t.Errorf("%v: Clocks = %v, %v", trace, c, err)
		}
		if l, err := order.Races(trace, rooms); len(l) > 0 || err != api.ErrRange {
			t.Errorf("%v: Races = %v, %v", trace, l, err)
		}
		for _, pair := range [][2]int{{0, 1}, {0, 0}, {1, 0}, {-1, 0}, {0, len(trace)}} {
			if is, err := order.Before(trace, rooms, pair[0], pair[1]); is || err != api.ErrRange {
				t.Errorf("%v: Before(%v) = %v, %v", trace, pair, is, err)
			}
		}
	}
}

// checkTaken asks that a trace is in form, and what the model tells of it.
func checkTaken(t *testing.T, trace []api.Event) {
	t.Helper()
	for _, rooms := range [][]int{nil, {0}, {1, 2}, {-1}} {
		checkTrace(t, trace, rooms)
	}
}

// among is a trace with an event at each place of one that is in form, one after the other.
func among(e api.Event, do func(trace []api.Event)) {
	good := traced("0 write 0, 0 go 1, 0 write 0, 1 read 0")
	do([]api.Event{e})
	for i := range len(good) + 1 {
		do(slices.Insert(slices.Clone(good), i, e))
	}
}

var anyNumbers = []int{math.MinInt, math.MinInt + 1, -9, -1, 0, 1, 7, 8, 12, 127, 128, 1 << 31, math.MaxInt - 1, math.MaxInt}

func TestFormOfG(t *testing.T) {
	for kind := api.EvRead; kind <= api.EvEnd; kind++ {
		for _, g := range anyNumbers {
			among(api.Event{G: g, Kind: kind}, func(trace []api.Event) {
				if g >= 0 && g < api.MaxGo {
					checkTaken(t, trace)
				} else {
					checkRefused(t, trace)
				}
			})
		}
	}
}

func TestFormOfKind(t *testing.T) {
	for _, kind := range append(slices.Clone(anyNumbers), 2, 3, 4, 5, 6, 9, 10, 11, 13, 14) {
		among(api.Event{G: 1, Kind: kind, Obj: 1}, func(trace []api.Event) {
			if kind >= 1 && kind <= 12 {
				checkTaken(t, trace)
			} else {
				checkRefused(t, trace)
			}
		})
	}
}

func TestFormOfObj(t *testing.T) {
	for kind := api.EvRead; kind <= api.EvEnd; kind++ {
		for _, obj := range anyNumbers {
			among(api.Event{G: 2, Kind: kind, Obj: obj}, func(trace []api.Event) {
				if kind != api.EvGo || obj >= 0 && obj < api.MaxGo {
					checkTaken(t, trace)
				} else {
					checkRefused(t, trace)
				}
			})
		}
	}
}

func TestFormOfAt(t *testing.T) {
	for kind := api.EvRead; kind <= api.EvEnd; kind++ {
		for _, at := range anyNumbers {
			among(api.Event{G: 2, Kind: kind, At: at}, func(trace []api.Event) { checkTaken(t, trace) })
		}
	}
}

// TestFormOfAll: each goroutine may do an EvGo of each one; a trace may have one wrong event among many good ones.
func TestFormOfAll(t *testing.T) {
	var trace []api.Event
	for g := range api.MaxGo {
		for obj := range api.MaxGo {
			trace = append(trace, api.Event{G: g, Kind: api.EvGo, Obj: obj})
		}
	}
	checkTaken(t, trace)
	for i := range trace {
		for _, e := range []api.Event{{}, {Kind: 13}, {G: api.MaxGo, Kind: 1}, {G: -1, Kind: 1}, {Kind: api.EvGo, Obj: api.MaxGo}, {Kind: api.EvGo, Obj: -1}} {
			wrong := slices.Clone(trace)
			wrong[i] = e
			checkRefused(t, wrong)
		}
	}
}

func TestEmptyTrace(t *testing.T) {
	for _, trace := range [][]api.Event{nil, {}} {
		for _, rooms := range [][]int{nil, {}, {1}, {-1, math.MaxInt}} {
			if err := order.Check(trace); err != nil {
				t.Error(err)
			}
			if c, err := order.Clocks(trace, rooms); len(c) > 0 || err != nil {
				t.Error(c, err)
			}
			if l, err := order.Races(trace, rooms); len(l) > 0 || err != nil {
				t.Error(l, err)
			}
			for _, a := range anyNumbers {
				for _, b := range anyNumbers {
					if is, err := order.Before(trace, rooms, a, b); is || err != api.ErrRange {
						t.Errorf("Before(%d, %d) = %v, %v", a, b, is, err)
					}
				}
			}
		}
	}
}

// TestBeforeOfNone: places that the trace doesn't have, either or both of them.
func TestBeforeOfNone(t *testing.T) {
	for _, text := range []string{"0 turn", "0 turn, 0 turn", "0 write 0, 0 go 1, 1 read 0, 0 end, 1 end"} {
		trace := traced(text)
		n := len(trace)
		for _, a := range append(slices.Clone(anyNumbers), n-1, n, n+1) {
			for _, b := range append(slices.Clone(anyNumbers), n-1, n, n+1) {
				is, err := order.Before(trace, nil, a, b)
				there := a >= 0 && a < n && b >= 0 && b < n
				if there && (err != nil || a >= b && is) || !there && (is || err != api.ErrRange) {
					t.Errorf("%s: Before(%d, %d) = %v, %v", text, a, b, is, err)
				}
			}
		}
	}
}
