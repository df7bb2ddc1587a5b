package digest

import "math/bits"

// words is what a state has of the whole blocks that it took.
type words [8]uint32

// turns has the word k(t) of each turn.
var turns = [64]uint32{
	0x428a2f98, 0x71374491, 0xb5c0fbcf, 0xe9b5dba5, 0x3956c25b, 0x59f111f1, 0x923f82a4, 0xab1c5ed5,
	0xd807aa98, 0x12835b01, 0x243185be, 0x550c7dc3, 0x72be5d74, 0x80deb1fe, 0x9bdc06a7, 0xc19bf174,
	0xe49b69c1, 0xefbe4786, 0x0fc19dc6, 0x240ca1cc, 0x2de92c6f, 0x4a7484aa, 0x5cb0a9dc, 0x76f988da,
	0x983e5152, 0xa831c66d, 0xb00327c8, 0xbf597fc7, 0xc6e00bf3, 0xd5a79147, 0x06ca6351, 0x14292967,
	0x27b70a85, 0x2e1b2138, 0x4d2c6dfc, 0x53380d13, 0x650a7354, 0x766a0abb, 0x81c2c92e, 0x92722c85,
	0xa2bfe8a1, 0xa81a664b, 0xc24b8b70, 0xc76c51a3, 0xd192e819, 0xd6990624, 0xf40e3585, 0x106aa070,
	0x19a4c116, 0x1e376c08, 0x2748774c, 0x34b0bcb5, 0x391c0cb3, 0x4ed8aa4a, 0x5b9cca4f, 0x682e6ff3,
	0x748f82ee, 0x78a5636f, 0x84c87814, 0x8cc70208, 0x90befffa, 0xa4506ceb, 0xbef9a3f7, 0xc67178f2,
}

// mix takes a block.
func (s *words) mix(block [blockSize]byte) {
	w := spread(block)
	a, b, c, d, e, f, g, h := s[0], s[1], s[2], s[3], s[4], s[5], s[6], s[7]
	for t := range turns {
		p := h + (right(e, 6) ^ right(e, 11) ^ right(e, 25)) + (e&f ^ ^e&g) + turns[t] + w[t]
		q := (right(a, 2) ^ right(a, 13) ^ right(a, 22)) + (a&b ^ a&c ^ b&c)
		a, b, c, d, e, f, g, h = p+q, a, b, c, d+p, e, f, g
	}
	for i, x := range [8]uint32{a, b, c, d, e, f, g, h} {
		s[i] += x
	}
}

// row is the words as bytes.
func (s *words) row() [32]byte {
	var out [32]byte
	for i := range out {
		out[i] = byte(s[i/4] >> (24 - i%4*8))
	}
	return out
}

// spread makes a word for each turn: sixteen are the block's, each further one comes from those ahead.
func spread(block [blockSize]byte) [64]uint32 {
	var w [64]uint32
	for t := range 16 {
		w[t] = word(block[4*t], block[4*t+1], block[4*t+2], block[4*t+3])
	}
	for t := 16; t < len(w); t++ {
		x, y := w[t-15], w[t-2]
		w[t] = w[t-16] + w[t-7] + (right(x, 7) ^ right(x, 18) ^ x>>3) + (right(y, 17) ^ right(y, 19) ^ y>>10)
	}
	return w
}

// word is four bytes, the high one first.
func word(a, b, c, d byte) uint32 {
	return uint32(a)<<24 | uint32(b)<<16 | uint32(c)<<8 | uint32(d)
}

// right is a word, turned right.
func right(x uint32, by int) uint32 {
	return bits.RotateLeft32(x, -by)
}
