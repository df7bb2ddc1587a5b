package draw_test

import (
	"fmt"
	"math"
	"math/rand"
	"slices"
	"testing"

	"stockade/api"
	"stockade/draw"
)

// The tests of P4.1 in every order, and of P4.2: draws held against a model, alone and in turns.

// A model says of a draw what the chapter says, in the plainest way: its seed, how many words were taken, and the clock.
type model struct {
	seed       []byte
	taken, now int
}

func (m *model) word() uint64 {
	m.taken++
	return wordOf(m.seed, m.taken-1)
}

func (m *model) pick(n int) (int, error) {
	if n < 1 {
		return 0, api.ErrRange
	}
	if n == 1 {
		return 0, nil
	}
	word := m.word()
	for tries := 1; tries < 64 && !fair(word, n); tries++ {
		word = m.word()
	}
	return int(word % uint64(n)), nil
}

func (m *model) tick(n int) error {
	if n < 0 || n > api.MaxSeq || m.now+n > api.MaxSeq {
		return api.ErrRange
	}
	m.now += n
	return nil
}

// A step is one call of a draw.
type step struct {
	call string
	n    int
}

func (s step) ofDraw(d *draw.Draw) string {
	switch s.call {
	case "Word":
		return fmt.Sprint(d.Word())
	case "Pick":
		return fmt.Sprint(d.Pick(s.n))
	case "Tick":
		return fmt.Sprint(d.Tick(s.n))
	case "Taken":
		return fmt.Sprint(d.Taken())
	}
	return fmt.Sprint(d.Now())
}

func (s step) ofModel(m *model) string {
	switch s.call {
	case "Word":
		return fmt.Sprint(m.word())
	case "Pick":
		return fmt.Sprint(m.pick(s.n))
	case "Tick":
		return fmt.Sprint(m.tick(s.n))
	case "Taken":
		return fmt.Sprint(m.taken)
	}
	return fmt.Sprint(m.now)
}

// check does a step of both, and holds all that can be asked against each other.
func check(t *testing.T, d *draw.Draw, m *model, s step, told any) {
	t.Helper()
	if got, want := s.ofDraw(d), s.ofModel(m); got != want {
		t.Fatalf("%v: %v = %s, want %s", told, s, got, want)
	}
	if d.Taken() != m.taken || d.Now() != m.now {
		t.Fatalf("%v: behind %v Taken %d, Now %d, want %d, %d", told, s, d.Taken(), d.Now(), m.taken, m.now)
	}
}

// manyTries is a number below which a third of all words are left out by a pick.
const manyTries = math.MaxUint64/3 + 1

// TestEveryOrder does all rows of calls of a short length: P4.1.
func TestEveryOrder(t *testing.T) {
	steps := []step{
		{call: "Word"}, {"Pick", 1}, {"Pick", 0}, {"Pick", 8}, {"Pick", manyTries}, {"Pick", -1},
		{"Tick", 0}, {"Tick", 3}, {"Tick", -1}, {"Tick", api.MaxSeq}, {"Tick", api.MaxSeq - 3}, {"Tick", math.MaxInt},
	}
	var row []step
	var deeper func(left int)
	deeper = func(left int) {
		if left == 0 {
			d, m := draw.New([]byte("order")), &model{seed: []byte("order")}
			for _, s := range row {
				check(t, d, m, s, row)
			}
			return
		}
		for _, s := range steps {
			row = append(row, s)
			deeper(left - 1)
			row = row[:len(row)-1]
		}
	}
	deeper(4)
}

func randomStep(r *rand.Rand) step {
	picks := slices.Concat([]int{1, 1, 0, -1, math.MinInt}, dividing(), leaving())
	ticks := []int{0, 1, 7, -1, api.MaxSeq / 50, api.MaxSeq / 3, api.MaxSeq, api.MaxSeq + 1, math.MaxInt, math.MinInt}
	switch r.Intn(8) {
	case 0, 1:
		return step{call: "Word"}
	case 2, 3:
		return step{"Pick", picks[r.Intn(len(picks))]}
	case 4:
		return step{"Pick", r.Intn(10)}
	case 5:
		return step{"Tick", ticks[r.Intn(len(ticks))]}
	case 6:
		return step{"Tick", r.Intn(100)}
	}
	return step{call: []string{"Taken", "Now"}[r.Intn(2)]}
}

// TestDrawsInTurns does calls of several draws by turns, two of them of one seed, each held against a model that knows of no other draw; words of their streams are asked for in between.
func TestDrawsInTurns(t *testing.T) {
	for trial := range int64(30) {
		r := rand.New(rand.NewSource(trial))
		var draws []*draw.Draw
		var models []*model
		for _, seed := range []string{"one", "one", "two", "", "", "one"} {
			draws = append(draws, draw.New([]byte(seed)))
			models = append(models, &model{seed: []byte(seed)})
		}
		for turn := range 300 {
			i := r.Intn(len(draws))
			check(t, draws[i], models[i], randomStep(r), fmt.Sprint("trial ", trial, ", turn ", turn, ", draw ", i))
			if r.Intn(10) == 0 {
				wantWords(t, models[i].seed, r.Intn(50), r.Intn(10))
			}
		}
	}
}

// TestTwoStreamsOfOneSeed takes the same words of both, whichever of them is ahead, and whatever a third one does: P4.2.
func TestTwoStreamsOfOneSeed(t *testing.T) {
	for _, seed := range seeds() {
		for ahead := range 10 {
			a, b, other := draw.New(seed), draw.New(seed), draw.New([]byte("other"))
			var ofA, ofB []uint64
			for range ahead {
				ofA = append(ofA, a.Word())
			}
			for range 30 {
				ofA = append(ofA, a.Word())
				other.Word()
				ofB = append(ofB, b.Word())
				if _, err := other.Pick(manyTries); err != nil {
					t.Error(err)
				}
			}
			if !slices.Equal(ofA[:30], ofB) {
				t.Errorf("seed %x: two streams of it differ, one %d words ahead", seed, ahead)
			}
			wantDraw(t, a, ahead+30, 0)
			wantDraw(t, b, 30, 0)
		}
	}
}

// TestOthersChangeNothing does one draw's calls alone, and again with others' calls between them, those of its own seed among them: P4.2.
func TestOthersChangeNothing(t *testing.T) {
	for trial := range int64(30) {
		r := rand.New(rand.NewSource(trial))
		var mine []step
		for range 100 {
			mine = append(mine, randomStep(r))
		}
		if !slices.Equal(answersOf(mine, nil), answersOf(mine, r)) {
			t.Errorf("trial %d: others changed an answer", trial)
		}
	}
}

// answersOf is what a draw answers to its calls; others, if there are any, draw calls of other draws, and refused ones among them.
func answersOf(mine []step, others *rand.Rand) []string {
	d := draw.New([]byte("mine"))
	twin, stranger := draw.New([]byte("mine")), draw.New([]byte("strange"))
	var out []string
	for _, s := range mine {
		if others != nil {
			randomStep(others).ofDraw(twin)
			randomStep(others).ofDraw(stranger)
			draw.New([]byte("mine")).Word()
			draw.Words([]byte("mine"), others.Intn(9)-1, others.Intn(9))
		}
		out = append(out, s.ofDraw(d), fmt.Sprint(d.Taken(), d.Now()))
	}
	return out
}

// TestSeedsApart: seeds that differ have other words.
func TestSeedsApart(t *testing.T) {
	all := seeds()[1:] // nil and no bytes are one seed
	seen := map[uint64]string{}
	for _, seed := range all {
		d := draw.New(seed)
		for i := range 50 {
			here := fmt.Sprintf("word %d of %x", i, seed)
			w := d.Word()
			if there, ok := seen[w]; ok {
				t.Errorf("%s is %s too", here, there)
			}
			seen[w] = here
		}
	}
	a, b := draw.New(nil), draw.New([]byte{})
	for range 9 {
		if a.Word() != b.Word() {
			t.Error("nil and no bytes are two seeds")
		}
	}
}
