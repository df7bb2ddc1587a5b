package draw

import (
	"math"
	"testing"
)

// The tests of a pick (P4.1) at words that no seed is known to give: those around the greatest multiple, and 64 and more in a row that are left out.

// handed gives words one by one, and tells how many were taken; behind the last one comes 0, again and again.
func handed(words ...uint64) (next func() uint64, taken func() int) {
	n := 0
	next = func() uint64 {
		n++
		if n > len(words) {
			return 0
		}
		return words[n-1]
	}
	return next, func() int { return n }
}

func wantPicked(t *testing.T, n uint64, words []uint64, want uint64, wantTaken int) {
	t.Helper()
	next, taken := handed(words...)
	if got := pick(n, next); got != want || taken() != wantTaken {
		t.Errorf("pick below %d of %x = %d, and took %d words, want %d and %d", n, words, got, taken(), want, wantTaken)
	}
}

func TestPickAroundTheGreatestMultiple(t *testing.T) {
	for _, c := range []struct{ n, top uint64 }{ // top: the greatest multiple of n that is at most 2^64
		{3, math.MaxUint64},      // 2^64 - 1
		{5, math.MaxUint64},      // 2^64 - 1
		{6, math.MaxUint64 - 3},  // 2^64 - 4
		{7, math.MaxUint64 - 1},  // 2^64 - 2
		{10, math.MaxUint64 - 5}, // 2^64 - 6
		{1<<62 + 1, 3<<62 + 3},
		{1<<62 - 1, math.MaxUint64 - 3},
		{math.MaxInt, math.MaxUint64 - 1},
		{math.MaxInt - 1, math.MaxUint64 - 3},
		{1<<62 + 1<<61, 1<<63 + 1<<62},
	} {
		wantPicked(t, c.n, []uint64{c.top - 1, 1}, c.n-1, 1)
		wantPicked(t, c.n, []uint64{c.top, 1}, 1, 2)
		wantPicked(t, c.n, []uint64{math.MaxUint64, 2}, 2, 2)
		wantPicked(t, c.n, []uint64{math.MaxUint64, c.top, c.top - 1}, c.n-1, 3)
		wantPicked(t, c.n, []uint64{0, 1}, 0, 1)
		wantPicked(t, c.n, []uint64{c.n, 1}, 0, 1)
	}
}

func TestPickLeavesNothingOutIfDividing(t *testing.T) {
	for shift := 1; shift < 63; shift++ {
		n := uint64(1) << shift
		wantPicked(t, n, []uint64{math.MaxUint64, 1}, n-1, 1)
		wantPicked(t, n, []uint64{-n, 1}, 0, 1)
		wantPicked(t, n, []uint64{0, 1}, 0, 1)
	}
}

func TestPickBelowOneAsksForNothing(t *testing.T) {
	wantPicked(t, 1, []uint64{5}, 0, 0)
	wantPicked(t, 1, []uint64{math.MaxUint64}, 0, 0)
}

// Of 64 words that are left out, the last one is taken as it is.
func TestPickTakesAtMost64Words(t *testing.T) {
	const n = 1<<62 + 1<<61 // its greatest multiple is 2^63 + 2^62
	const top = 1<<63 + 1<<62
	words := make([]uint64, 70)
	for i := range words {
		words[i] = top + uint64(i)
	}
	wantPicked(t, n, words, 63, 64)
	for good := range words {
		row := append([]uint64(nil), words...)
		row[good] = 1000 + n
		if good < 64 {
			wantPicked(t, n, row, 1000, good+1)
		} else {
			wantPicked(t, n, row, 63, 64)
		}
	}
}
