package pool_test

import (
	"fmt"
	"math/rand"
	"slices"
	"testing"

	"stockade/api"
	"stockade/pool"
)

// A model says of an arena what the chapter says, in the plainest way: which runs there are, and the words of each.
type model struct {
	share int
	runs  map[int][]int // by address: the words
}

func newModel(share int) *model {
	return &model{share: share, runs: map[int][]int{}}
}

func (m *model) taken(page int) bool {
	for at, run := range m.runs {
		if at <= page*words && page*words < at+len(run) {
			return true
		}
	}
	return false
}

func (m *model) fits(first, count int) bool {
	if first+count > m.share {
		return false
	}
	for i := range count {
		if m.taken(first + i) {
			return false
		}
	}
	return true
}

func (m *model) alloc(n int) (int, error) {
	if n < 1 {
		return 0, api.ErrRange
	}
	count := 0
	for count*words < n {
		count++
	}
	for first := range m.share {
		if m.fits(first, count) {
			m.runs[first*words] = make([]int, count*words)
			return first * words, nil
		}
	}
	return 0, api.ErrArena
}

func (m *model) free(at int) error {
	if _, ok := m.runs[at]; !ok {
		return api.ErrNone
	}
	delete(m.runs, at)
	return nil
}

func (m *model) word(at int) *int {
	for from, run := range m.runs {
		if from <= at && at < from+len(run) {
			return &run[at-from]
		}
	}
	return nil
}

func (m *model) get(at int) (int, error) {
	if w := m.word(at); w != nil {
		return *w, nil
	}
	return 0, api.ErrRange
}

func (m *model) set(at, v int) error {
	if w := m.word(at); w != nil {
		*w = v
		return nil
	}
	return api.ErrRange
}

func (m *model) used() int {
	n := 0
	for i := range m.share {
		if m.taken(i) {
			n++
		}
	}
	return n
}

func (m *model) dump() []int {
	out := make([]int, m.share*words)
	for at, run := range m.runs {
		copy(out[at:], run)
	}
	return out
}

// A step is one call of an arena.
type step struct {
	call string
	n, v int
}

func (s step) ofArena(a *pool.Arena) string {
	switch s.call {
	case "Alloc":
		return fmt.Sprint(a.Alloc(s.n))
	case "Free":
		return fmt.Sprint(a.Free(s.n))
	case "Get":
		return fmt.Sprint(a.Get(s.n))
	case "Set":
		return fmt.Sprint(a.Set(s.n, s.v))
	case "Size":
		return fmt.Sprint(a.Size(s.n))
	case "Clear":
		a.Clear()
	}
	return fmt.Sprint(a.Used(), a.Share())
}

func (s step) ofModel(m *model) string {
	switch s.call {
	case "Alloc":
		return fmt.Sprint(m.alloc(s.n))
	case "Free":
		return fmt.Sprint(m.free(s.n))
	case "Get":
		return fmt.Sprint(m.get(s.n))
	case "Set":
		return fmt.Sprint(m.set(s.n, s.v))
	case "Size":
		return fmt.Sprint(len(m.runs[s.n]))
	case "Clear":
		clear(m.runs)
	}
	return fmt.Sprint(m.used(), m.share)
}

// probe asks everything there is to ask of an arena, so that a wrong state can't stay hidden.
func probe(t *testing.T, a *pool.Arena, m *model, told any) {
	t.Helper()
	for at := -1; at <= m.share*words; at++ {
		for _, s := range []step{{call: "Get", n: at}, {call: "Size", n: at}} {
			if got, want := s.ofArena(a), s.ofModel(m); got != want {
				t.Fatalf("behind %v: %v = %s, want %s", told, s, got, want)
			}
		}
	}
	if a.Used() != m.used() || a.Share() != m.share {
		t.Fatalf("behind %v: Used %d, Share %d, want %d, %d", told, a.Used(), a.Share(), m.used(), m.share)
	}
}

// TestEveryOrder does all rows of calls of a short length, on an arena of three pages: P2.1.
func TestEveryOrder(t *testing.T) {
	steps := []step{
		{call: "Alloc", n: 1}, {call: "Alloc", n: 17}, {call: "Alloc", n: 48}, {call: "Alloc", n: 0},
		{call: "Free", n: 0}, {call: "Free", n: 16}, {call: "Free", n: 32}, {call: "Free", n: 1},
		{call: "Set", n: 0, v: 1}, {call: "Set", n: 31, v: 2}, {call: "Set", n: 32, v: 3}, {call: "Set", n: -1, v: 4},
		{call: "Clear"},
	}
	var row []step
	var deeper func(left int)
	deeper = func(left int) {
		if left == 0 {
			checkRow(t, row)
			return
		}
		for _, s := range steps {
			row = append(row, s)
			deeper(left - 1)
			row = row[:len(row)-1]
		}
	}
	deeper(4)
}

func checkRow(t *testing.T, row []step) {
	t.Helper()
	p, m := newPool(t, 5, 1, 3), newModel(3)
	a := arenaOf(t, p, 1)
	for i, s := range row {
		if got, want := s.ofArena(a), s.ofModel(m); got != want {
			t.Fatalf("%v: %s, want %s", row[:i+1], got, want)
		}
	}
	// What a call leaves is probed at the end of the row that ends with it.
	probe(t, a, m, row)
	if got := p.Dump(); !slices.Equal(got[words:4*words], m.dump()) {
		t.Fatalf("behind %v: Dump is %v", row, got)
	}
}

func randomStep(r *rand.Rand, share int) step {
	at := r.Intn(share*words+3) - 1
	if r.Intn(2) == 0 {
		at -= at % words
	}
	switch r.Intn(12) {
	case 0, 1, 2, 3:
		return step{call: "Alloc", n: r.Intn(4*words) - 1}
	case 4, 5:
		return step{call: "Free", n: at}
	case 6, 7, 8:
		return step{call: "Set", n: at, v: r.Int()}
	case 9:
		return step{call: "Get", n: at}
	case 10:
		return step{call: "Size", n: at}
	}
	if r.Intn(8) == 0 {
		return step{call: "Clear"}
	}
	return step{call: "Used"}
}

// TestArenasApart does calls of several arenas by turns, each held against a model that knows of no other arena: P2.1 in long rows, and P2.2.
func TestArenasApart(t *testing.T) {
	for seed := range int64(40) {
		r := rand.New(rand.NewSource(seed))
		shares := []int{5, 0, 1, 9, 3}
		p := newPool(t, 20, shares...)
		arenas, models := make([]*pool.Arena, len(shares)), make([]*model, len(shares))
		for i, share := range shares {
			arenas[i], models[i] = arenaOf(t, p, i), newModel(share)
		}
		for turn := range 400 {
			i := r.Intn(len(shares))
			s := randomStep(r, shares[i])
			if got, want := s.ofArena(arenas[i]), s.ofModel(models[i]); got != want {
				t.Fatalf("seed %d, turn %d, arena %d: %v = %s, want %s", seed, turn, i, s, got, want)
			}
			checkWords(t, p, models)
		}
		for i := range shares {
			probe(t, arenas[i], models[i], seed)
		}
	}
}

// checkWords holds all words of the pool against the models', side by side; those of nobody's pages are 0.
func checkWords(t *testing.T, p *pool.Pool, models []*model) {
	t.Helper()
	var want []int
	for _, m := range models {
		want = append(want, m.dump()...)
	}
	want = append(want, make([]int, p.Pages()*words-len(want))...)
	if got := p.Dump(); !slices.Equal(got, want) {
		t.Fatalf("Dump is %v, want %v", got, want)
	}
}

// TestNeighboursChangeNothing does one arena's calls alone, and again with a neighbour's calls on both sides between them: P2.2.
func TestNeighboursChangeNothing(t *testing.T) {
	for seed := range int64(40) {
		r := rand.New(rand.NewSource(seed))
		var mine []step
		for range 60 {
			mine = append(mine, randomStep(r, 4))
		}
		alone, aloneWords := answersOf(t, mine, nil)
		beside, besideWords := answersOf(t, mine, r)
		if !slices.Equal(alone, beside) {
			t.Errorf("seed %d: neighbours changed an answer", seed)
		}
		if !slices.Equal(aloneWords, besideWords) {
			t.Errorf("seed %d: neighbours changed a word", seed)
		}
	}
}

// answersOf is what the middle arena of three answers to its calls, and its words behind each; others, if there are any, draw calls of its neighbours.
func answersOf(t *testing.T, mine []step, others *rand.Rand) (answers []string, all []int) {
	t.Helper()
	p := newPool(t, 12, 4, 4, 4)
	left, a, right := arenaOf(t, p, 0), arenaOf(t, p, 1), arenaOf(t, p, 2)
	for _, s := range mine {
		if others != nil {
			for range 3 {
				randomStep(others, 4).ofArena(left)
				randomStep(others, 4).ofArena(right)
			}
		}
		answers = append(answers, s.ofArena(a))
		all = append(all, p.Dump()[4*words:8*words]...)
	}
	return answers, all
}

// TestPoolsApart: two pools of one configuration share nothing.
func TestPoolsApart(t *testing.T) {
	shares := []int{2}
	p, q := newPool(t, 2, shares...), newPool(t, 2, shares...)
	a, b := arenaOf(t, p, 0), arenaOf(t, q, 0)
	wantAlloc(t, a, 2*words, 0, nil)
	wantSet(t, a, 5, 7, nil)
	wantAlloc(t, b, 1, 0, nil)
	wantWord(t, b, 5, 0, nil)
	b.Clear()
	wantWord(t, a, 5, 7, nil)
	wantPages(t, a, 2, 2)
}
