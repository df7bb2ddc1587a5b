package order_test

import (
	"math"
	"slices"
	"testing"

	"stockade/api"
	"stockade/order"
)

// The tests of P18.1 on Same.

func checkSame(t *testing.T, a, b []api.Race, want bool) {
	t.Helper()
	if order.Same(a, b) != want || order.Same(b, a) != want {
		t.Errorf("Same(%v, %v) isn't %v", a, b, want)
	}
}

func TestSame(t *testing.T) {
	rows := [][]api.Race{
		{{}},
		{{}, {}},
		{{Place: 1, First: 2, Second: 3, FirstW: true}},
		{{Place: 1, First: 2, Second: 3, FirstW: true}, {Place: 4, First: 2, Second: 3, SecondW: true}},
		{{Place: 4, First: 2, Second: 3, SecondW: true}, {Place: 1, First: 2, Second: 3, FirstW: true}},
		{{Place: math.MinInt, First: math.MaxInt, Second: -1, FirstW: true, SecondW: true}},
	}
	for i, a := range rows {
		checkSame(t, a, nil, false)
		checkSame(t, a, []api.Race{}, false)
		for j, b := range rows {
			checkSame(t, a, slices.Clone(b), i == j)
		}
		checkSame(t, a, append(slices.Clone(a), api.Race{}), false)
		checkSame(t, a, append(slices.Clone(a), a...), false)
	}
	checkSame(t, nil, []api.Race{}, true)
	checkSame(t, nil, nil, true)
	checkSame(t, []api.Race{}, []api.Race{}, true)
}

// TestSameFields: rows that part in one field of one race.
func TestSameFields(t *testing.T) {
	row := []api.Race{{Place: 3, First: 4, Second: 5, FirstW: true}, {Place: 6, First: 7, Second: 8, SecondW: true}, {Place: 9}}
	for i := range row {
		for _, change := range []func(r *api.Race){
			func(r *api.Race) { r.Place++ },
			func(r *api.Race) { r.First-- },
			func(r *api.Race) { r.Second = -r.Second - 1 },
			func(r *api.Race) { r.First, r.Second = r.Second+1, r.First },
			func(r *api.Race) { r.FirstW = !r.FirstW },
			func(r *api.Race) { r.SecondW = !r.SecondW },
		} {
			other := slices.Clone(row)
			change(&other[i])
			checkSame(t, row, other, false)
		}
	}
	checkSame(t, row, slices.Clone(row), true)
	checkSame(t, row, append(make([]api.Race, 0, 9), row...), true)
	checkSame(t, row[:2], row, false)
	checkSame(t, row[1:], row, false)
}
