package pool_test

import (
	"math"
	"slices"
	"testing"

	"stockade/api"
	"stockade/pool"
)

// The tests of P2.1: every call answers what is told. model_test.go has those of every order.

const words = api.PageWords

func newPool(t *testing.T, pages int, shares ...int) *pool.Pool {
	t.Helper()
	p, err := pool.New(pages, shares)
	if err != nil || p == nil {
		t.Fatalf("New(%d, %v) = %v, %v", pages, shares, p, err)
	}
	return p
}

func arenaOf(t *testing.T, p *pool.Pool, i int) *pool.Arena {
	t.Helper()
	a, err := p.Arena(i)
	if err != nil || a == nil {
		t.Fatalf("Arena(%d) = %v, %v", i, a, err)
	}
	return a
}

func wantAlloc(t *testing.T, a *pool.Arena, n, at int, want error) {
	t.Helper()
	if got, err := a.Alloc(n); got != at || err != want {
		t.Errorf("Alloc(%d) = %d, %v, want %d, %v", n, got, err, at, want)
	}
}

func wantFree(t *testing.T, a *pool.Arena, at int, want error) {
	t.Helper()
	if err := a.Free(at); err != want {
		t.Errorf("Free(%d) = %v, want %v", at, err, want)
	}
}

func wantWord(t *testing.T, a *pool.Arena, at, v int, want error) {
	t.Helper()
	if got, err := a.Get(at); got != v || err != want {
		t.Errorf("Get(%d) = %d, %v, want %d, %v", at, got, err, v, want)
	}
}

func wantSet(t *testing.T, a *pool.Arena, at, v int, want error) {
	t.Helper()
	if err := a.Set(at, v); err != want {
		t.Errorf("Set(%d, %d) = %v, want %v", at, v, err, want)
	}
}

func wantSize(t *testing.T, a *pool.Arena, at, want int) {
	t.Helper()
	if got := a.Size(at); got != want {
		t.Errorf("Size(%d) = %d, want %d", at, got, want)
	}
}

func wantPages(t *testing.T, a *pool.Arena, used, share int) {
	t.Helper()
	if a.Used() != used || a.Share() != share {
		t.Errorf("Used %d, Share %d, want %d, %d", a.Used(), a.Share(), used, share)
	}
}

func TestNew(t *testing.T) {
	for _, x := range []struct {
		pages  int
		shares []int
	}{
		{1, nil},
		{1, []int{}},
		{1, []int{0}},
		{1, []int{1}},
		{1, []int{0, 0, 1, 0}},
		{8, []int{3, 2}},
		{8, []int{5, 3}},
		{api.MaxPages, nil},
		{api.MaxPages, []int{api.MaxPages}},
		{api.MaxPages, []int{1, 0, api.MaxPages - 1}},
		{api.MaxPages, slices.Repeat([]int{api.MaxPages / api.MaxTenants}, api.MaxTenants)},
		{3, make([]int, api.MaxTenants)},
	} {
		p := newPool(t, x.pages, x.shares...)
		if p.Pages() != x.pages {
			t.Errorf("New(%d, %v): Pages is %d", x.pages, x.shares, p.Pages())
		}
		if got := p.Dump(); !slices.Equal(got, make([]int, x.pages*words)) {
			t.Errorf("New(%d, %v): Dump is %v", x.pages, x.shares, got)
		}
		for i, share := range x.shares {
			wantPages(t, arenaOf(t, p, i), 0, share)
		}
	}
}

func TestNewRefuses(t *testing.T) {
	for _, x := range []struct {
		pages  int
		shares []int
	}{
		{0, nil},
		{0, []int{0}},
		{-1, nil},
		{math.MinInt, nil},
		{api.MaxPages + 1, nil},
		{math.MaxInt, []int{1}},
		{8, make([]int, api.MaxTenants+1)},
		{8, []int{-1}},
		{8, []int{9, -1}},
		{8, []int{-1, 9}},
		{8, []int{3, math.MinInt}},
		{8, []int{9}},
		{8, []int{5, 4}},
		{8, []int{5, 3, 1}},
		{8, []int{0, 0, 9}},
		{1, []int{1, 1}},
		{8, []int{1, math.MaxInt}},
		{8, []int{math.MaxInt, math.MaxInt, 2}},
		{8, []int{math.MaxInt/2 + 1, math.MaxInt/2 + 1, math.MaxInt/2 + 1, math.MaxInt/2 + 1}},
		{8, []int{math.MaxInt, math.MinInt, 1}},
	} {
		if p, err := pool.New(x.pages, x.shares); p != nil || err != api.ErrRange {
			t.Errorf("New(%d, %v) = %v, %v, want nothing and ErrRange", x.pages, x.shares, p, err)
		}
	}
}

func TestNewKeepsNoShares(t *testing.T) {
	room := []int{3, 2, 70, 71}
	p := newPool(t, 8, room[:2]...)
	if !slices.Equal(room, []int{3, 2, 70, 71}) {
		t.Errorf("New changed what was handed in: %v", room)
	}
	room[0], room[1] = 8, 8
	wantPages(t, arenaOf(t, p, 0), 0, 3)
	wantPages(t, arenaOf(t, p, 1), 0, 2)
}

func TestArena(t *testing.T) {
	p := newPool(t, 8, 3, 0, 2)
	for _, i := range []int{math.MinInt, -1, 3, math.MaxInt} {
		if a, err := p.Arena(i); a != nil || err != api.ErrRange {
			t.Errorf("Arena(%d) = %v, %v, want nothing and ErrRange", i, a, err)
		}
	}
	for i := range 3 {
		if arenaOf(t, p, i) != arenaOf(t, p, i) {
			t.Errorf("Arena(%d) isn't the same at each call", i)
		}
	}
	if a, err := newPool(t, 8).Arena(0); a != nil || err != api.ErrRange {
		t.Errorf("Arena(0) of a pool without tenants = %v, %v", a, err)
	}
}

func TestExample(t *testing.T) {
	a := arenaOf(t, newPool(t, 8, 3, 2), 0)
	wantAlloc(t, a, 17, 0, nil)
	wantPages(t, a, 2, 3)
	wantAlloc(t, a, 1, 32, nil)
	wantAlloc(t, a, 1, 0, api.ErrArena)
	wantFree(t, a, 0, nil)
	wantAlloc(t, a, 16, 0, nil)
	wantPages(t, a, 2, 3)
}

func TestAllocRoundsUp(t *testing.T) {
	for _, x := range []struct{ n, pages int }{
		{1, 1}, {15, 1}, {16, 1}, {17, 2}, {31, 2}, {32, 2}, {33, 3}, {48, 3}, {64, 4},
	} {
		a := arenaOf(t, newPool(t, 4, 4), 0)
		wantAlloc(t, a, x.n, 0, nil)
		wantPages(t, a, x.pages, 4)
		wantSize(t, a, 0, x.pages*words)
	}
}

func TestAllocRefuses(t *testing.T) {
	for _, share := range []int{0, 1, 4} {
		a := arenaOf(t, newPool(t, 8, share), 0)
		for _, n := range []int{0, -1, -16, math.MinInt} {
			wantAlloc(t, a, n, 0, api.ErrRange)
		}
		for _, n := range []int{share*words + 1, share*words + 16, 9 * words, math.MaxInt - 15, math.MaxInt - 1, math.MaxInt} {
			wantAlloc(t, a, n, 0, api.ErrArena)
		}
		wantPages(t, a, 0, share)
	}
}

func TestAllocFullAsksForRangeFirst(t *testing.T) {
	a := arenaOf(t, newPool(t, 1, 1), 0)
	wantAlloc(t, a, 1, 0, nil)
	wantAlloc(t, a, 0, 0, api.ErrRange)
	wantAlloc(t, a, 1, 0, api.ErrArena)
}

func TestAllocTakesTheLowestInARow(t *testing.T) {
	a := arenaOf(t, newPool(t, 10, 9), 0)
	for i := range 9 {
		wantAlloc(t, a, 1, i*words, nil)
	}
	for _, i := range []int{1, 3, 4, 6, 7, 8} {
		wantFree(t, a, i*words, nil)
	}
	wantAlloc(t, a, 4*words, 0, api.ErrArena) // six pages are free, but no four in a row
	wantAlloc(t, a, 2*words+1, 6*words, nil)  // behind the gap of two
	wantAlloc(t, a, words+1, 3*words, nil)    // behind the gap of one
	wantAlloc(t, a, words, words, nil)
	wantPages(t, a, 9, 9)
	wantAlloc(t, a, 1, 0, api.ErrArena)
}

func TestWordsOfRuns(t *testing.T) {
	a := arenaOf(t, newPool(t, 8, 4, 4), 0)
	wantAlloc(t, a, 1, 0, nil)
	wantAlloc(t, a, 17, 16, nil)
	wantFree(t, a, 0, nil)
	for _, at := range []int{math.MinInt, -17, -16, -15, -1, 0, 1, 15, 48, 63, 64, 65, 127, 128, math.MaxInt} {
		wantWord(t, a, at, 0, api.ErrRange)
		wantSet(t, a, at, 5, api.ErrRange)
	}
	for at := 16; at < 48; at++ {
		wantWord(t, a, at, 0, nil)
		wantSet(t, a, at, -at, nil)
	}
	for at := 16; at < 48; at++ {
		wantWord(t, a, at, -at, nil)
	}
	wantSet(t, a, 20, math.MinInt, nil)
	wantWord(t, a, 20, math.MinInt, nil)
	wantSet(t, a, 20, math.MaxInt, nil)
	wantWord(t, a, 20, math.MaxInt, nil)
}

func TestFreeAndSizeAskForTheAddress(t *testing.T) {
	a := arenaOf(t, newPool(t, 8, 5, 3), 0)
	wantAlloc(t, a, 1, 0, nil)
	wantAlloc(t, a, 3*words, 16, nil)
	for _, at := range []int{math.MinInt, -16, -1, 1, 15, 17, 31, 32, 48, 63, 64, 80, 96, 128, math.MaxInt} {
		wantFree(t, a, at, api.ErrNone)
		wantSize(t, a, at, 0)
	}
	wantPages(t, a, 4, 5)
	wantSize(t, a, 0, 16)
	wantSize(t, a, 16, 48)
	wantFree(t, a, 16, nil)
	wantFree(t, a, 16, api.ErrNone)
	wantSize(t, a, 16, 0)
	wantSize(t, a, 0, 16)
	wantPages(t, a, 1, 5)
}

func TestRunsSideBySideStayTwo(t *testing.T) {
	a := arenaOf(t, newPool(t, 4, 4), 0)
	wantAlloc(t, a, 2*words, 0, nil)
	wantAlloc(t, a, 2*words, 32, nil)
	wantSet(t, a, 31, 1, nil)
	wantSet(t, a, 32, 2, nil)
	wantFree(t, a, 0, nil)
	wantWord(t, a, 31, 0, api.ErrRange)
	wantWord(t, a, 32, 2, nil)
	wantSize(t, a, 32, 32)
	wantPages(t, a, 2, 4)
}

func TestFreedWordsAre0(t *testing.T) {
	p := newPool(t, 4, 3)
	a := arenaOf(t, p, 0)
	for range 2 {
		wantAlloc(t, a, 2*words, 0, nil)
		wantAlloc(t, a, 1, 32, nil)
		for at := range 3 * words {
			wantWord(t, a, at, 0, nil)
			wantSet(t, a, at, at+1, nil)
		}
		wantFree(t, a, 0, nil)
		want := make([]int, 4*words)
		for at := 32; at < 48; at++ {
			want[at] = at + 1
		}
		if got := p.Dump(); !slices.Equal(got, want) {
			t.Errorf("behind Free the words are %v", got)
		}
		wantFree(t, a, 32, nil)
	}
	if got := p.Dump(); !slices.Equal(got, make([]int, 4*words)) {
		t.Errorf("all is free, and the words are %v", got)
	}
}

func TestClear(t *testing.T) {
	p := newPool(t, 5, 1, 4)
	a := arenaOf(t, p, 1)
	a.Clear()
	for range 2 {
		wantAlloc(t, a, 1, 0, nil)
		wantAlloc(t, a, 17, 16, nil)
		wantSet(t, a, 0, 7, nil)
		wantSet(t, a, 47, 8, nil)
		a.Clear()
		wantPages(t, a, 0, 4)
		wantSize(t, a, 0, 0)
		wantSize(t, a, 16, 0)
		wantFree(t, a, 16, api.ErrNone)
		wantWord(t, a, 47, 0, api.ErrRange)
		if got := p.Dump(); !slices.Equal(got, make([]int, 5*words)) {
			t.Errorf("behind Clear the words are %v", got)
		}
		a.Clear()
	}
	wantAlloc(t, a, 4*words, 0, nil)
	wantWord(t, a, 47, 0, nil)
}

func TestArenaOfNoPages(t *testing.T) {
	a := arenaOf(t, newPool(t, 2, 1, 0, 1), 1)
	wantAlloc(t, a, 1, 0, api.ErrArena)
	wantAlloc(t, a, 0, 0, api.ErrRange)
	wantFree(t, a, 0, api.ErrNone)
	wantSize(t, a, 0, 0)
	wantWord(t, a, 0, 0, api.ErrRange)
	wantSet(t, a, 0, 1, api.ErrRange)
	a.Clear()
	wantPages(t, a, 0, 0)
}

func TestDumpIsInOrder(t *testing.T) {
	p := newPool(t, 6, 1, 0, 2, 2)
	want := make([]int, 6*words)
	for i, from := range []int{0, 1, 1, 3} {
		a := arenaOf(t, p, i)
		if a.Share() == 0 {
			continue
		}
		wantAlloc(t, a, a.Share()*words, 0, nil)
		for at := range a.Share() * words {
			wantSet(t, a, at, 1000*i+at+1, nil)
			want[from*words+at] = 1000*i + at + 1
		}
	}
	if got := p.Dump(); !slices.Equal(got, want) {
		t.Errorf("Dump is %v, want %v", got, want)
	}
}

func TestDumpIsNewMemory(t *testing.T) {
	p := newPool(t, 2, 2)
	a := arenaOf(t, p, 0)
	wantAlloc(t, a, 1, 0, nil)
	wantSet(t, a, 3, 7, nil)
	got := p.Dump()
	got = got[:cap(got)]
	for i := range got {
		got[i] = 99
	}
	wantWord(t, a, 3, 7, nil)
	wantWord(t, a, 4, 0, nil)
	before := p.Dump()
	wantSet(t, a, 3, 8, nil)
	if before[3] != 7 || p.Dump()[3] != 8 {
		t.Error("an answer of Dump changed behind a Set")
	}
}

func TestGreatestPool(t *testing.T) {
	p := newPool(t, api.MaxPages, api.MaxPages)
	a := arenaOf(t, p, 0)
	wantAlloc(t, a, api.MaxPages*words+1, 0, api.ErrArena)
	wantAlloc(t, a, api.MaxPages*words, 0, nil)
	wantSize(t, a, 0, api.MaxPages*words)
	last := api.MaxPages*words - 1
	wantSet(t, a, last, 5, nil)
	wantSet(t, a, last+1, 5, api.ErrRange)
	if got := p.Dump(); len(got) != last+1 || got[last] != 5 {
		t.Errorf("Dump has %d words", len(got))
	}
	wantFree(t, a, 0, nil)
	for i := range api.MaxPages {
		wantAlloc(t, a, 1, i*words, nil)
	}
	wantPages(t, a, api.MaxPages, api.MaxPages)
}
