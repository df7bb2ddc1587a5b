package digest_test

import (
	"bytes"
	"crypto/sha256"
	"math/rand"
	"slices"
	"testing"

	"stockade/digest"
)

// The tests of P3.1 in every order: states that take their bytes in parts, behind a Sum or a Copy, and beside others.

func TestTakeIsTheStateItself(t *testing.T) {
	s := digest.New()
	if s.Take([]byte("ab")) != s || s.Take(nil) != s || s.Take(row(64)) != s {
		t.Error("Take answers another state")
	}
}

func TestTakeInTwoParts(t *testing.T) {
	b := row(200)
	for n := range 201 {
		for at := range n + 1 {
			wantSum(t, digest.New().Take(b[:at]).Take(b[at:n]), b[:n])
		}
	}
}

func TestTakeInEqualParts(t *testing.T) {
	b := row(700)
	for size := 1; size <= 150; size++ {
		s := digest.New()
		for part := range slices.Chunk(b, size) {
			s.Take(part)
		}
		wantSum(t, s, b)
	}
}

// A Sum in between changes nothing: neither the next Sum, nor what more bytes come to.
func TestMoreBehindSum(t *testing.T) {
	b := row(330)
	for _, size := range []int{1, 7, 55, 56, 63, 64, 65, 128} {
		s := digest.New()
		taken := 0
		for part := range slices.Chunk(b, size) {
			wantSum(t, s, b[:taken])
			wantSum(t, s, b[:taken])
			s.Take(part)
			taken += len(part)
		}
		wantSum(t, s, b)
	}
}

// A state and its copy go on apart, whichever of them takes first.
func TestMoreBehindCopy(t *testing.T) {
	b, own, other := row(200), bytes.Repeat([]byte("own"), 50), bytes.Repeat([]byte("other"), 50)
	for n := range 201 {
		for _, m := range []int{0, 1, 8, 63, 64, 65, 130} {
			s := digest.New().Take(b[:n])
			c := s.Copy()
			if c == s {
				t.Fatal("Copy is the state itself")
			}
			wantSum(t, c, b[:n])
			s.Take(own[:m])
			wantSum(t, c, b[:n])
			wantSum(t, s, slices.Concat(b[:n], own[:m]))
			c.Take(other[:m])
			wantSum(t, s, slices.Concat(b[:n], own[:m]))
			wantSum(t, c, slices.Concat(b[:n], other[:m]))
		}
	}
}

// States that are made, copied and fed in turns, each held against the bytes that it took.
func TestStatesInTurns(t *testing.T) {
	for seed := range int64(40) {
		r := rand.New(rand.NewSource(seed))
		states := []*digest.State{digest.New()}
		took := [][]byte{nil}
		for range 150 {
			i := r.Intn(len(states))
			switch k := r.Intn(6); {
			case k == 0 && len(states) < 8:
				states, took = append(states, digest.New()), append(took, nil)
			case k == 1 && len(states) < 8:
				states, took = append(states, states[i].Copy()), append(took, slices.Clone(took[i]))
			case k == 2:
				wantSum(t, states[i], took[i])
			default:
				part := make([]byte, r.Intn(140))
				r.Read(part)
				states[i].Take(part)
				took[i] = append(took[i], part...)
			}
		}
		for i, s := range states {
			wantSum(t, s, took[i])
		}
	}
}

func TestTakeKeepsNothing(t *testing.T) {
	for _, n := range []int{1, 63, 64, 65, 100, 128} {
		b := row(n)
		s := digest.New().Take(b)
		clear(b)
		wantSum(t, s, row(n))
	}
}

// What is handed in stands there unchanged, and so does the room behind it.
func TestNothingHandedInIsChanged(t *testing.T) {
	for _, n := range []int{0, 1, 55, 56, 63, 64, 65, 130} {
		room := row(n + 80)
		b := room[:n]
		digest.New().Take(b).Sum()
		digest.Of(b)
		digest.Tag(b, nil)
		digest.Tag(nil, b)
		digest.Tag(b, b)
		digest.Tagged(b).Tag(b)
		digest.Equal(b, b)
		digest.Equal(b, slices.Clone(b))
		if !bytes.Equal(room, row(n+80)) {
			t.Errorf("%d bytes that were handed in, or their room, have changed", n)
		}
	}
}

func TestAnswersAreTheirOwn(t *testing.T) {
	s := digest.New().Take([]byte("ab"))
	sum := s.Sum()
	clear(sum[:])
	wantSum(t, s, []byte("ab"))
	of := digest.Of([]byte("ab"))
	clear(of[:])
	if digest.Of([]byte("ab")) != sha256.Sum256([]byte("ab")) {
		t.Error("Of hangs on an earlier answer")
	}
}

// A key's tags are the same as often as asked, whatever was tagged in between, and whatever becomes of the key's bytes.
func TestTaggedAsOftenAsAsked(t *testing.T) {
	for _, n := range []int{0, 1, 32, 63, 64, 65, 130} {
		key := row(n)
		k := digest.Tagged(key)
		for i := range key {
			key[i] ^= 0xff
		}
		for _, m := range []int{0, 64, 3, 0, 200, 64, 3, 1} {
			b := row(m)
			if got, want := k.Tag(b), tagOf(row(n), b); got != want {
				t.Errorf("Tag of a key of %d bytes and %d = %x, want %x", n, m, got, want)
			}
		}
	}
}

func TestKeysApart(t *testing.T) {
	var keys [][]byte
	var tagged []*digest.Keyed
	for n := range 70 {
		key := bytes.Repeat([]byte{byte(n + 1)}, n)
		keys, tagged = append(keys, key), append(tagged, digest.Tagged(key))
	}
	r := rand.New(rand.NewSource(1))
	for range 500 {
		i, b := r.Intn(len(keys)), row(r.Intn(150))
		if tagged[i].Tag(b) != tagOf(keys[i], b) {
			t.Errorf("Tag of key %d and %d bytes", i, len(b))
		}
	}
}
