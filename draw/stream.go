package draw

import "stockade/digest"

const (
	wordSize   = 8
	blockWords = 32 / wordSize
)

// stream is a seed's words, of which some were taken. It keeps no block: a word's number alone says which one it is, so that a stream may begin at any.
type stream struct {
	seed  [32]byte // the seed's digest, for the seed itself isn't kept
	taken int
}

// streamOf is the stream of a seed, of which so many words were taken.
func streamOf(seed []byte, taken int) stream {
	return stream{seed: digest.Of(seed), taken: taken}
}

// next takes a word.
func (s *stream) next() uint64 {
	block := s.block(uint64(s.taken / blockWords))
	at := s.taken % blockWords * wordSize
	s.taken++
	return number([wordSize]byte(block[at : at+wordSize]))
}

// block is block n of the stream.
func (s *stream) block(n uint64) [32]byte {
	b := row(n)
	return digest.New().Take(s.seed[:]).Take(b[:]).Sum()
}

// row is a number as bytes, the high one first.
func row(n uint64) [wordSize]byte {
	var b [wordSize]byte
	for i := range b {
		b[i] = byte(n >> (56 - 8*i))
	}
	return b
}

// number is what these bytes are, the high one first.
func number(b [wordSize]byte) uint64 {
	n := uint64(0)
	for _, x := range b {
		n = n<<8 | uint64(x)
	}
	return n
}
