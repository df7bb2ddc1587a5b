// Package clock is layer 1: vector clocks and epochs. See shared/doc/01-clock.md.
package clock

import "stockade/api"

// Epoch is a goroutine and a count.
type Epoch struct {
	G, N int
}

// Short is a clock in short form.
func Short(c []int) []int {
	return merge(c, nil, func(x, _ int) int { return x })
}

// Get is a count.
func Get(c []int, g int) int {
	if g < 0 || g >= len(c) {
		return 0
	}
	return max(c[g], 0)
}

// Tick is a clock with one more.
func Tick(c []int, g int) ([]int, error) {
	if g < 0 || g >= api.MaxGo {
		return nil, api.ErrRange
	}
	if Get(c, g) >= api.MaxCount {
		return nil, api.ErrClock
	}
	return merge(c, single(g), func(x, y int) int { return x + y }), nil
}

// Join is the greater counts of two clocks.
func Join(a, b []int) []int {
	return merge(a, b, func(x, y int) int { return max(x, y) })
}

// AtMost tells whether a clock is at most another one.
func AtMost(a, b []int) bool {
	return every(a, b, func(x, y int) bool { return x <= y })
}

// Apart tells whether neither clock is at most the other.
func Apart(a, b []int) bool {
	return !AtMost(a, b) && !AtMost(b, a)
}

// Same tells whether clocks are the same.
func Same(a, b []int) bool {
	return every(a, b, func(x, y int) bool { return x == y })
}

// Of is an epoch of a clock.
func Of(c []int, g int) Epoch {
	return Epoch{G: g, N: Get(c, g)}
}

// AtMost tells whether an epoch is at most a clock.
func (e Epoch) AtMost(c []int) bool {
	return e.N <= Get(c, e.G)
}

// merge reads counts through Get, so that both lists may be of any length and hold counts below 0.
func merge(a, b []int, count func(x, y int) int) []int {
	out := make([]int, max(len(a), len(b)))
	for g := range out {
		out[g] = count(Get(a, g), Get(b, g))
	}
	return trim(out)
}

// every goes on to the end of the longer list: a count that only one of them has is held against 0.
func every(a, b []int, holds func(x, y int) bool) bool {
	for g := range max(len(a), len(b)) {
		if !holds(Get(a, g), Get(b, g)) {
			return false
		}
	}
	return true
}

// trim cuts its argument in place: it is for lists that merge made, never for ones that were handed in.
func trim(c []int) []int {
	n := len(c)
	for n > 0 && c[n-1] == 0 {
		n--
	}
	return c[:n]
}

// single is the clock whose only count is 1, of goroutine g.
func single(g int) []int {
	c := make([]int, g+1)
	c[g] = 1
	return c
}
