package draw_test

import (
	"bytes"
	"crypto/sha256"
	"encoding/binary"
	"math"
	"math/big"
	"slices"
	"testing"

	"stockade/api"
	"stockade/draw"
)

// The tests of P4.1: every call answers what is told. order_test.go has those of every order, and of P4.2; pick_test.go has picks of words that are handed in.

// wordOf is word n of a seed's stream, by the library's SHA-256.
func wordOf(seed []byte, n int) uint64 {
	sum := sha256.Sum256(seed)
	block := sha256.Sum256(binary.BigEndian.AppendUint64(sum[:], uint64(n/4)))
	return binary.BigEndian.Uint64(block[n%4*8:])
}

// fair tells whether a word is below the greatest multiple of n that is at most 2^64.
func fair(word uint64, n int) bool {
	whole := new(big.Int).Lsh(big.NewInt(1), 64)
	top := new(big.Int).Mul(new(big.Int).Div(whole, big.NewInt(int64(n))), big.NewInt(int64(n)))
	return new(big.Int).SetUint64(word).Cmp(top) < 0
}

// seeds are of no bytes, of few, and of lengths at which the seed's digest takes another block.
func seeds() [][]byte {
	out := [][]byte{nil, {}, {0}, []byte("seed"), []byte("Seed"), []byte("seed\x00")}
	for _, n := range []int{32, 40, 55, 56, 63, 64, 65, 300} {
		out = append(out, bytes.Repeat([]byte{byte(n)}, n))
	}
	return out
}

func wantDraw(t *testing.T, d *draw.Draw, taken, now int) {
	t.Helper()
	if d.Taken() != taken || d.Now() != now {
		t.Errorf("Taken %d, Now %d, want %d, %d", d.Taken(), d.Now(), taken, now)
	}
}

func wantPick(t *testing.T, d *draw.Draw, n, want int, wantErr error) {
	t.Helper()
	if got, err := d.Pick(n); got != want || err != wantErr {
		t.Errorf("Pick(%d) = %d, %v, want %d, %v", n, got, err, want, wantErr)
	}
}

func wantTick(t *testing.T, d *draw.Draw, n int, want error, now int) {
	t.Helper()
	if err := d.Tick(n); err != want {
		t.Errorf("Tick(%d) = %v, want %v", n, err, want)
	}
	if d.Now() != now {
		t.Errorf("Now = %d behind Tick(%d), want %d", d.Now(), n, now)
	}
}

func wantWords(t *testing.T, seed []byte, from, count int) {
	t.Helper()
	got, err := draw.Words(seed, from, count)
	if err != nil || len(got) != count {
		t.Fatalf("Words(%x, %d, %d): %d words, %v", seed, from, count, len(got), err)
	}
	for i, w := range got {
		if want := wordOf(seed, from+i); w != want {
			t.Errorf("Words(%x, %d, %d)[%d] = %x, want %x", seed, from, count, i, w, want)
		}
	}
}

// The words of these seeds were worked out by another program.
func TestKnownWords(t *testing.T) {
	for _, c := range []struct {
		seed string
		want []uint64
	}{
		{"", []uint64{0x5c5d42dcf39f71c0, 0x226ca720d8d518db, 0x615b5773f038e5e4, 0x91963f6f47621bbd, 0x48f2b0172585b575, 0x13296eb5a7d22391, 0xdb7e10a66de6f6d3, 0xb80f155754886024, 0xef76316e21c0c250}},
		{"seed", []uint64{0xcc36962cfef13089, 0xa78aacb34a45b2a9, 0xf29c01dff44cfc1a, 0xd0a679eaae30db0e, 0x5e5b2a6bdf7729ae, 0x1fceee624192074e, 0xb79b4b493df68070, 0x6af453288c20732d, 0x5dd8dedc225a8ca0}},
		{"tenant 0", []uint64{0x36fec8a93ed41870, 0x6a652632b1f42dc6, 0xd8d3e8e5c29c96e4, 0x39e3c202730e94e7, 0x013865bab3543696, 0xe22e666116a83321, 0x60b8f67150c56bb0, 0xea82dc5893b3ab39, 0xe3c830c34a4cbf36}},
	} {
		d := draw.New([]byte(c.seed))
		for i, want := range c.want {
			if got := d.Word(); got != want {
				t.Errorf("word %d of %q = %x, want %x", i, c.seed, got, want)
			}
		}
		if got, err := draw.Words([]byte(c.seed), 0, len(c.want)); err != nil || !slices.Equal(got, c.want) {
			t.Errorf("Words of %q = %x, %v, want %x", c.seed, got, err, c.want)
		}
	}
}

func TestKnownFarWords(t *testing.T) {
	want := []uint64{0x4d512dc2293568d3, 0x9e64ec9a738f6f8d}
	if got, err := draw.Words([]byte("seed"), api.MaxSeq, 2); err != nil || !slices.Equal(got, want) {
		t.Errorf("Words from MaxSeq on = %x, %v, want %x", got, err, want)
	}
	if got, err := draw.Words([]byte("seed"), api.MaxSeq-1, 1); err != nil || !slices.Equal(got, []uint64{0x5ff802dc3996bac2}) {
		t.Errorf("Words from MaxSeq - 1 on = %x, %v", got, err)
	}
}

func TestNewTookNothing(t *testing.T) {
	for _, seed := range seeds() {
		wantDraw(t, draw.New(seed), 0, 0)
	}
}

// 300 blocks are enough that a block's number has two bytes that aren't 0.
func TestWord(t *testing.T) {
	for _, seed := range seeds() {
		d := draw.New(seed)
		for i := range 1200 {
			if got, want := d.Word(), wordOf(seed, i); got != want {
				t.Fatalf("word %d of %x = %x, want %x", i, seed, got, want)
			}
			wantDraw(t, d, i+1, 0)
		}
	}
}

func TestWords(t *testing.T) {
	for _, seed := range seeds() {
		for from := range 10 {
			for count := range 10 {
				wantWords(t, seed, from, count)
			}
		}
		for _, from := range []int{255, 256, 1023, 1024, 4095, 1<<18 - 1, 1 << 34, 1<<40 - 5, api.MaxSeq - 1, api.MaxSeq} {
			for _, count := range []int{0, 1, 2, 5} {
				wantWords(t, seed, from, count)
			}
		}
	}
}

func TestWordsAtTheirBounds(t *testing.T) {
	for _, from := range []int{0, 1, 3, api.MaxSeq} {
		for _, count := range []int{0, 4095, 4096} {
			wantWords(t, []byte("bounds"), from, count)
		}
	}
}

func TestWordsRefused(t *testing.T) {
	for _, c := range []struct{ from, count int }{
		{-1, 0}, {-1, 1}, {math.MinInt, 1},
		{api.MaxSeq + 1, 0}, {api.MaxSeq + 1, 1}, {math.MaxInt, 1},
		{0, -1}, {0, math.MinInt}, {0, 4097}, {0, math.MaxInt},
		{api.MaxSeq, -1}, {api.MaxSeq, 4097}, {math.MaxInt, math.MaxInt}, {-1, -1}, {-1, 4097},
	} {
		for _, seed := range [][]byte{nil, []byte("seed")} {
			if got, err := draw.Words(seed, c.from, c.count); len(got) != 0 || err != api.ErrRange {
				t.Errorf("Words(%q, %d, %d) = %x, %v, want ErrRange", seed, c.from, c.count, got, err)
			}
		}
	}
}

func TestPickBelowOneTakesNoWord(t *testing.T) {
	for _, seed := range seeds() {
		d := draw.New(seed)
		for i := range 6 {
			wantPick(t, d, 1, 0, nil)
			wantDraw(t, d, i, 0)
			if got, want := d.Word(), wordOf(seed, i); got != want {
				t.Errorf("word %d of %x behind Pick(1) = %x, want %x", i, seed, got, want)
			}
		}
	}
}

func TestPickRefused(t *testing.T) {
	d := draw.New([]byte("seed"))
	for _, n := range []int{0, -1, -2, math.MinInt, math.MinInt + 1} {
		wantPick(t, d, n, 0, api.ErrRange)
		wantDraw(t, d, 0, 0)
	}
	if got, want := d.Word(), wordOf([]byte("seed"), 0); got != want {
		t.Errorf("the first word behind refused picks = %x, want %x", got, want)
	}
}

// dividing are all numbers from 2 on that divide 2^64 and are ints.
func dividing() []int {
	var out []int
	for shift := 1; shift < 63; shift++ {
		out = append(out, 1<<shift)
	}
	return out
}

func TestPickBelowDividing(t *testing.T) {
	seed := []byte("dividing")
	d := draw.New(seed)
	taken := 0
	for range 20 {
		for _, n := range dividing() {
			wantPick(t, d, n, int(wordOf(seed, taken)&uint64(n-1)), nil)
			taken++
			wantDraw(t, d, taken, 0)
		}
	}
}

// leaving are numbers that don't divide 2^64; of some of them, many words are left out.
func leaving() []int {
	return []int{3, 5, 6, 7, 9, 10, 100, 255, 257, 1<<32 - 1, 1<<32 + 1,
		math.MaxUint64/3 + 1, math.MaxUint64/4 + 2, math.MaxUint64/5 + 1, 1<<62 - 1, 1<<62 + 1, 1<<62 + 1<<61, math.MaxInt - 1, math.MaxInt}
}

func TestPickBelowLeaving(t *testing.T) {
	seed := []byte("leaving")
	d := draw.New(seed)
	taken, left := 0, 0
	for range 100 {
		for _, n := range leaving() {
			for !fair(wordOf(seed, taken), n) {
				taken++
				left++
			}
			wantPick(t, d, n, int(wordOf(seed, taken)%uint64(n)), nil)
			taken++
			wantDraw(t, d, taken, 0)
		}
	}
	if left < 50 {
		t.Errorf("only %d words were left out: this seed tells too little", left)
	}
}

func TestTick(t *testing.T) {
	d := draw.New(nil)
	wantTick(t, d, 0, nil, 0)
	wantTick(t, d, 5, nil, 5)
	wantTick(t, d, 0, nil, 5)
	wantTick(t, d, 1, nil, 6)
	wantTick(t, d, 1<<30, nil, 1<<30+6)
	wantDraw(t, d, 0, 1<<30+6)
}

func TestTickRefusedBelowZero(t *testing.T) {
	d := draw.New(nil)
	for _, start := range []int{0, 3} {
		wantTick(t, d, start, nil, start)
		for _, n := range []int{-1, -3, -4, math.MinInt, math.MinInt + 1} {
			wantTick(t, d, n, api.ErrRange, start)
		}
	}
}

func TestTickToMaxSeq(t *testing.T) {
	for _, start := range []int{0, 1, 1000, api.MaxSeq - 1, api.MaxSeq} {
		d := draw.New([]byte("late"))
		wantTick(t, d, start, nil, start)
		for _, n := range []int{api.MaxSeq - start + 1, api.MaxSeq + 1, math.MaxInt, math.MaxInt - start} {
			wantTick(t, d, n, api.ErrRange, start)
		}
		wantTick(t, d, api.MaxSeq-start, nil, api.MaxSeq)
		wantTick(t, d, 0, nil, api.MaxSeq)
		for _, n := range []int{1, 2, -1, math.MaxInt, math.MinInt} {
			wantTick(t, d, n, api.ErrRange, api.MaxSeq)
		}
		if got, want := d.Word(), wordOf([]byte("late"), 0); got != want || d.Taken() != 1 {
			t.Errorf("the first word with the clock at MaxSeq = %x, want %x", got, want)
		}
	}
}

func TestNothingHandedInIsChanged(t *testing.T) {
	for _, n := range []int{0, 1, 32, 55, 64, 100} {
		room := bytes.Repeat([]byte{7}, n+80)
		seed := room[:n]
		draw.New(seed).Word()
		if _, err := draw.Words(seed, 3, 9); err != nil {
			t.Error(err)
		}
		if !bytes.Equal(room, bytes.Repeat([]byte{7}, n+80)) {
			t.Errorf("a seed of %d bytes that was handed in, or its room, has changed", n)
		}
	}
}

func TestSeedIsNotKept(t *testing.T) {
	for _, n := range []int{1, 32, 64, 100} {
		seed := bytes.Repeat([]byte{7}, n)
		d := draw.New(seed)
		clear(seed)
		for i := range 9 {
			if got, want := d.Word(), wordOf(bytes.Repeat([]byte{7}, n), i); got != want {
				t.Errorf("word %d of %d bytes that were changed behind New = %x, want %x", i, n, got, want)
			}
		}
	}
}

func TestWordsAreNewMemory(t *testing.T) {
	seed := []byte("seed")
	first, err := draw.Words(seed, 0, 8)
	if err != nil {
		t.Fatal(err)
	}
	clear(first)
	wantWords(t, seed, 0, 8)
}
