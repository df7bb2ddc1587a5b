package digest_test

import (
	"bytes"
	"crypto/hmac"
	"crypto/sha256"
	"encoding/hex"
	"slices"
	"strings"
	"testing"

	"stockade/digest"
)

// The tests of P3.1: every call answers what is told, at all bytes. order_test.go has those of every order.

// row is n bytes that don't repeat from block to block.
func row(n int) []byte {
	b := make([]byte, n)
	for i := range b {
		b[i] = byte(i*7 + i/64*13 + i/256 + 1)
	}
	return b
}

func tagOf(key, b []byte) [32]byte {
	h := hmac.New(sha256.New, key)
	h.Write(b)
	return [32]byte(h.Sum(nil))
}

func wantHex(t *testing.T, what string, got [32]byte, want string) {
	t.Helper()
	if x := hex.EncodeToString(got[:]); x != strings.ReplaceAll(want, " ", "") {
		t.Errorf("%s = %s, want %s", what, x, want)
	}
}

func wantSum(t *testing.T, s *digest.State, b []byte) {
	t.Helper()
	if got, want := s.Sum(), sha256.Sum256(b); got != want {
		t.Errorf("Sum behind %d bytes = %x, want %x", len(b), got, want)
	}
	if s.Len() != len(b) {
		t.Errorf("Len = %d, want %d", s.Len(), len(b))
	}
}

func TestOfKnownTexts(t *testing.T) {
	for _, c := range []struct{ text, want string }{
		{"", "e3b0c442 98fc1c14 9afbf4c8 996fb924 27ae41e4 649b934c a495991b 7852b855"},
		{"abc", "ba7816bf 8f01cfea 414140de 5dae2223 b00361a3 96177a9c b410ff61 f20015ad"},
		{"abcdbcdecdefdefgefghfghighijhijkijkljklmklmnlmnomnopnopq", "248d6a61 d20638b8 e5c02693 0c3e6039 a33ce459 64ff2167 f6ecedd4 19db06c1"},
		{strings.Repeat("a", 1000000), "cdc76e5c 9914fb92 81a1c7e2 84d73e67 f1809a48 a497200e 046d39cc c7112cd0"},
	} {
		wantHex(t, "Of", digest.Of([]byte(c.text)), c.want)
	}
}

func TestOfNothing(t *testing.T) {
	want := sha256.Sum256(nil)
	if digest.Of(nil) != want || digest.Of([]byte{}) != want {
		t.Error("the digest of no bytes")
	}
	wantSum(t, digest.New(), nil)
	wantSum(t, digest.New().Take(nil), nil)
	wantSum(t, digest.New().Take([]byte{}).Take(nil), nil)
}

// Among the lengths are those around whole blocks (63, 64, 65, ..) and around those whose end takes one block more (55, 56, ..).
func TestOfEveryLength(t *testing.T) {
	b := row(1100)
	for n := range b {
		if got, want := digest.Of(b[:n]), sha256.Sum256(b[:n]); got != want {
			t.Errorf("Of %d bytes = %x, want %x", n, got, want)
		}
		wantSum(t, digest.New().Take(b[:n]), b[:n])
	}
}

func TestOfEveryByte(t *testing.T) {
	for x := range 256 {
		for _, n := range []int{1, 55, 56, 64, 119, 120, 128} {
			b := bytes.Repeat([]byte{byte(x)}, n)
			if digest.Of(b) != sha256.Sum256(b) {
				t.Errorf("Of %d bytes %#x", n, x)
			}
		}
	}
}

// A single bit anywhere reaches every turn of its block.
func TestOfEveryBit(t *testing.T) {
	for i := range 128 * 8 {
		b := make([]byte, 128)
		b[i/8] = 1 << (i % 8)
		if digest.Of(b) != sha256.Sum256(b) {
			t.Errorf("Of 128 bytes with bit %d", i)
		}
	}
}

// 2^29 bytes are 2^32 bits: their number has more than its four low bytes.
func TestManyBytes(t *testing.T) {
	if testing.Short() {
		t.Skip("takes half a gibibyte")
	}
	part := row(1<<20 - 1)
	s, want := digest.New(), sha256.New()
	taken := 0
	for taken <= 1<<29 {
		s.Take(part)
		want.Write(part)
		taken += len(part)
	}
	if got := s.Sum(); got != [32]byte(want.Sum(nil)) || s.Len() != taken {
		t.Errorf("Sum behind %d bytes = %x, Len %d", taken, got, s.Len())
	}
}

// Of the answers that are known beforehand (RFC 4231).
func TestTagKnownTexts(t *testing.T) {
	for _, c := range []struct {
		key, text []byte
		want      string
	}{
		{[]byte("Jefe"), []byte("what do ya want for nothing?"), "5bdcc146 bf60754e 6a042426 089575c7 5a003f08 9d273983 9dec58b9 64ec3843"},
		{bytes.Repeat([]byte{0x0b}, 20), []byte("Hi There"), "b0344c61 d8db3853 5ca8afce af0bf12b 881dc200 c9833da7 26e9376c 2e32cff7"},
		{bytes.Repeat([]byte{0xaa}, 20), bytes.Repeat([]byte{0xdd}, 50), "773ea91e 36800e46 854db8eb d09181a7 2959098b 3ef8c122 d9635514 ced565fe"},
		{bytes.Repeat([]byte{0xaa}, 131), []byte("Test Using Larger Than Block-Size Key - Hash Key First"), "60e43159 1ee0b67f 0d8a26aa cbf5b77f 8e0bc621 3728c514 0546040f 0ee37f54"},
	} {
		wantHex(t, "Tag", digest.Tag(c.key, c.text), c.want)
		wantHex(t, "Tagged.Tag", digest.Tagged(c.key).Tag(c.text), c.want)
	}
}

// Keys of up to 64 bytes, and of more; those of 64 and 65 are the edge.
func TestTagEveryKeyLength(t *testing.T) {
	b := row(300)
	for n := range 200 {
		key := row(n)
		k := digest.Tagged(key)
		for _, m := range []int{0, 1, 54, 55, 56, 63, 64, 65, 119, 120, 128, 300} {
			want := tagOf(key, b[:m])
			if got := digest.Tag(key, b[:m]); got != want {
				t.Errorf("Tag of a key of %d bytes and %d = %x, want %x", n, m, got, want)
			}
			if got := k.Tag(b[:m]); got != want {
				t.Errorf("Tagged's Tag of a key of %d bytes and %d = %x, want %x", n, m, got, want)
			}
		}
	}
}

func TestTagOfNothing(t *testing.T) {
	want := tagOf(nil, nil)
	for _, key := range [][]byte{nil, {}} {
		for _, b := range [][]byte{nil, {}} {
			if digest.Tag(key, b) != want || digest.Tagged(key).Tag(b) != want {
				t.Errorf("Tag(%#v, %#v)", key, b)
			}
		}
	}
}

// A key is filled up by bytes 0: so a key with some of its own at its end has the same tags, up to a whole block.
func TestTagOfKeyWithZeros(t *testing.T) {
	key := []byte("key")
	for n := range 70 {
		longer := append(slices.Clone(key), make([]byte, n)...)
		same := digest.Tag(key, []byte("b")) == digest.Tag(longer, []byte("b"))
		if same != (len(longer) <= 64) {
			t.Errorf("a key of 3 bytes and %d bytes 0: the same tag: %v", n, same)
		}
	}
}

// A long key's digest is a key that has the same tags.
func TestTagOfLongKey(t *testing.T) {
	for _, n := range []int{64, 65, 66, 128, 1000} {
		key := row(n)
		short := sha256.Sum256(key)
		same := digest.Tag(key, []byte("b")) == digest.Tag(short[:], []byte("b"))
		if same != (n > 64) {
			t.Errorf("a key of %d bytes and its digest: the same tag: %v", n, same)
		}
	}
}

func TestEqual(t *testing.T) {
	for _, c := range []struct {
		a, b string
		want bool
	}{
		{"", "", true},
		{"", "\x00", false},
		{"\x00", "", false},
		{"\x00", "\x00\x00", false},
		{"a", "a", true},
		{"a", "b", false},
		{"a", "ab", false},
		{"ab", "a", false},
		{"ab", "ba", false},
		{"ab", "cb", false},
		{"ab", "ac", false},
		{"aa", "bb", false},
		{"\x01\x02", "\x02\x01", false},
	} {
		if got := digest.Equal([]byte(c.a), []byte(c.b)); got != c.want {
			t.Errorf("Equal(%q, %q) = %v", c.a, c.b, got)
		}
	}
	if !digest.Equal(nil, nil) || !digest.Equal(nil, []byte{}) || !digest.Equal([]byte{}, nil) || digest.Equal(nil, []byte{0}) || digest.Equal([]byte{0}, nil) {
		t.Error("Equal of nil")
	}
}

func TestEqualSeesEveryBit(t *testing.T) {
	for _, n := range []int{1, 2, 31, 32, 33, 300} {
		a := row(n)
		if !digest.Equal(a, slices.Clone(a)) || !digest.Equal(a, a) {
			t.Errorf("Equal of the same %d bytes", n)
		}
		for i := range n * 8 {
			b := slices.Clone(a)
			b[i/8] ^= 1 << (i % 8)
			if digest.Equal(a, b) || digest.Equal(b, a) {
				t.Errorf("Equal of %d bytes that differ in bit %d", n, i)
			}
		}
		for m := range n {
			if digest.Equal(a, a[:m]) || digest.Equal(a[:m], a) {
				t.Errorf("Equal of %d and %d bytes", n, m)
			}
		}
	}
}

func TestEqualSeesEveryPairOfBytes(t *testing.T) {
	for x := range 256 {
		for y := range 256 {
			if digest.Equal([]byte{9, byte(x)}, []byte{9, byte(y)}) != (x == y) {
				t.Errorf("Equal of the bytes %d and %d", x, y)
			}
		}
	}
}
