package draw

import "math"

// maxTries is the most words that one pick takes.
const maxTries = 64

// pick is a pick below n, which is 1 or above. The words come by a function that is handed in, for no seed is known of which a pick takes the most words.
func pick(n uint64, next func() uint64) uint64 {
	if n == 1 {
		return 0
	}
	last := lastFair(n)
	word := next()
	for tries := 1; tries < maxTries && word > last; tries++ {
		word = next()
	}
	return word % n
}

// lastFair is the last number below the greatest multiple of n that is at most 2^64. That multiple itself may be 2^64, which is no uint64.
func lastFair(n uint64) uint64 {
	over := -n % n // 2^64 modulo n, for -n is 2^64 less n
	return math.MaxUint64 - over
}
