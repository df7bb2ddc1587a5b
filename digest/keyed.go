package digest

// Keyed is a key. It keeps two states that took the key, and not the key itself: a copy of each begins a tag.
type Keyed struct {
	inner, outer *State
}

// Tagged is a key's own tags.
func Tagged(key []byte) *Keyed {
	pad := padded(key)
	return &Keyed{inner: veiled(pad, 0x36), outer: veiled(pad, 0x5c)}
}

// Tag is the tag of bytes.
func (k *Keyed) Tag(b []byte) [32]byte {
	inner := k.inner.Copy().Take(b).Sum()
	return k.outer.Copy().Take(inner[:]).Sum()
}

// Tag is the tag of a key and bytes.
func Tag(key, b []byte) [32]byte {
	return Tagged(key).Tag(b)
}

// padded is a key as a whole block; of one that doesn't fit, its digest stands for it.
func padded(key []byte) [blockSize]byte {
	var pad [blockSize]byte
	if len(key) > blockSize {
		sum := Of(key)
		key = sum[:]
	}
	copy(pad[:], key)
	return pad
}

// veiled is a state that took a padded key, each byte of it changed by the same mask.
func veiled(pad [blockSize]byte, mask byte) *State {
	for i := range pad {
		pad[i] ^= mask
	}
	return New().Take(pad[:])
}
