package sync_test

import (
	"fmt"
	"math"
	"math/rand"
	"testing"

	"stockade/api"
	"stockade/sync"
	"stockade/value"
)

// A model says of a state what the chapter says, in the plainest way: by maps, which have an element or not.
type model struct {
	places  map[int]api.Value
	mutexes map[int]bool
	chans   map[int]api.Chan
	sent    map[int][]api.Value // all values that a channel was ever sent
	taken   map[int]int         // and how many of them were received
	atomics map[int]int
}

func (h shape) model() *model {
	m := &model{map[int]api.Value{}, map[int]bool{}, map[int]api.Chan{}, map[int][]api.Value{}, map[int]int{}, map[int]int{}}
	for i, typ := range h.places {
		m.places[i] = api.Value{Type: typ}
	}
	for i := range h.mutexes {
		m.mutexes[i] = false
	}
	for i, c := range h.chans {
		m.chans[i] = c
	}
	for i := range h.atomics {
		m.atomics[i] = 0
	}
	return m
}

func (m *model) copy() *model {
	c := shape{}.model()
	for i, v := range m.places {
		c.places[i] = v
	}
	for i, locked := range m.mutexes {
		c.mutexes[i] = locked
	}
	for i, ch := range m.chans {
		c.chans[i], c.taken[i] = ch, m.taken[i]
		c.sent[i] = append([]api.Value(nil), m.sent[i]...)
	}
	for i, n := range m.atomics {
		c.atomics[i] = n
	}
	return c
}

// holds tells all that a model holds, so that states are the same just where these texts are.
func (m *model) holds() string {
	held := map[int][]api.Value{}
	for i := range m.chans {
		held[i] = m.sent[i][m.taken[i]:]
	}
	return fmt.Sprint(m.places, m.mutexes, m.chans, held, m.atomics)
}

func good(v api.Value, typ int) bool {
	ok := map[int]bool{api.TInt: v.Bits == 0, api.TFloat: v.N == 0, api.TBool: v == api.Value{Type: 3} || v == api.Value{Type: 3, N: 1}}
	return ok[v.Type] && v.Type == typ
}

// A step is one call of a state.
type step struct {
	call string
	i, n int
	v    api.Value
}

func (p step) ofState(s *sync.State) string {
	switch p.call {
	case "Read":
		return fmt.Sprintln(s.Read(p.i))
	case "Write":
		return fmt.Sprintln(s.Write(p.i, p.v))
	case "Lock":
		return fmt.Sprintln(s.Lock(p.i))
	case "Unlock":
		return fmt.Sprintln(s.Unlock(p.i))
	case "Locked":
		return fmt.Sprintln(s.Locked(p.i))
	case "Send":
		return fmt.Sprintln(s.Send(p.i, p.v))
	case "Recv":
		return fmt.Sprintln(s.Recv(p.i))
	case "Len":
		return fmt.Sprintln(s.Len(p.i))
	case "Room":
		return fmt.Sprintln(s.Room(p.i))
	case "Get":
		return fmt.Sprintln(s.Get(p.i))
	case "Put":
		return fmt.Sprintln(s.Put(p.i, p.n))
	}
	return fmt.Sprintln(s.Add(p.i, p.n))
}

func (p step) ofModel(m *model) string {
	switch p.call {
	case "Read", "Write":
		return p.ofPlace(m)
	case "Lock", "Unlock", "Locked":
		return p.ofMutex(m)
	case "Send", "Recv", "Len", "Room":
		return p.ofChan(m)
	}
	return p.ofAtomic(m)
}

func (p step) ofPlace(m *model) string {
	old, there := m.places[p.i]
	switch {
	case p.call == "Read" && !there:
		return fmt.Sprintln(none(), api.ErrRange)
	case p.call == "Read":
		return fmt.Sprintln(old, nil)
	case !there:
		return fmt.Sprintln(api.ErrRange)
	case !good(p.v, old.Type):
		return fmt.Sprintln(api.ErrType)
	}
	m.places[p.i] = p.v
	return fmt.Sprintln(nil)
}

func (p step) ofMutex(m *model) string {
	locked, there := m.mutexes[p.i]
	switch {
	case p.call == "Locked":
		return fmt.Sprintln(locked)
	case !there:
		return fmt.Sprintln(false, api.ErrRange)
	case locked == (p.call == "Lock"):
		return fmt.Sprintln(false, nil)
	}
	m.mutexes[p.i] = !locked
	return fmt.Sprintln(true, nil)
}

func (p step) ofChan(m *model) string {
	c, there := m.chans[p.i]
	held := len(m.sent[p.i]) - m.taken[p.i]
	switch {
	case p.call == "Len":
		return fmt.Sprintln(held)
	case p.call == "Room":
		return fmt.Sprintln(c.Room)
	case p.call == "Recv" && !there:
		return fmt.Sprintln(none(), false, api.ErrRange)
	case p.call == "Recv" && held == 0:
		return fmt.Sprintln(none(), false, nil)
	case p.call == "Recv":
		m.taken[p.i]++
		return fmt.Sprintln(m.sent[p.i][m.taken[p.i]-1], true, nil)
	case !there:
		return fmt.Sprintln(false, api.ErrRange)
	case !good(p.v, c.Type):
		return fmt.Sprintln(false, api.ErrType)
	case held == c.Room:
		return fmt.Sprintln(false, nil)
	}
	m.sent[p.i] = append(m.sent[p.i], p.v)
	return fmt.Sprintln(true, nil)
}

func (p step) ofAtomic(m *model) string {
	n, there := m.atomics[p.i]
	switch {
	case p.call == "Get" && !there:
		return fmt.Sprintln(0, api.ErrRange)
	case p.call == "Get":
		return fmt.Sprintln(n, nil)
	case !there:
		return fmt.Sprintln(api.ErrRange)
	case p.call == "Add":
		m.atomics[p.i] = int(uint(n) + uint(p.n))
	default:
		m.atomics[p.i] = p.n
	}
	return fmt.Sprintln(nil)
}

// probe asks everything there is to ask of a state, so that a wrong one can't stay hidden; what its channels hold is taken from a copy.
func probe(t *testing.T, s *sync.State, m *model, told any) {
	t.Helper()
	s, m = s.Copy(), m.copy()
	ask := func(p step) {
		if got, want := p.ofState(s), p.ofModel(m); got != want {
			t.Fatalf("behind %v: %v = %swant %s", told, p, got, want)
		}
	}
	for i := range m.places {
		ask(step{call: "Read", i: i})
	}
	for i := range m.mutexes {
		ask(step{call: "Locked", i: i})
	}
	for i := range m.atomics {
		ask(step{call: "Get", i: i})
	}
	for i := range m.chans {
		ask(step{call: "Room", i: i})
		for range api.MaxRoom + 1 {
			ask(step{call: "Len", i: i})
			ask(step{call: "Recv", i: i})
		}
	}
}

// TestEveryOrder does all rows of calls of a short length: P11.1.
func TestEveryOrder(t *testing.T) {
	h := shape{places: []int{api.TInt, api.TBool}, mutexes: 2, chans: []api.Chan{{Type: api.TInt, Room: 2}, {Type: api.TInt}}, atomics: 1}
	steps := []step{
		{call: "Write", v: value.Int(1)}, {call: "Write", i: 1, v: value.Bool(true)}, {call: "Write", v: value.Bool(true)},
		{call: "Lock"}, {call: "Unlock"}, {call: "Lock", i: 1}, {call: "Unlock", i: 2},
		{call: "Send", v: value.Int(1)}, {call: "Send", v: value.Int(2)}, {call: "Send", v: value.Float(1)}, {call: "Recv"},
		{call: "Send", i: 1, v: value.Int(1)}, {call: "Recv", i: 1}, {call: "Recv", i: -1},
		{call: "Put", n: 5}, {call: "Add", n: -7}, {call: "Add", i: 1, n: 1},
	}
	length := 4
	if testing.Short() {
		length = 3
	}
	var row []step
	var deeper func(left int)
	deeper = func(left int) {
		if left == 0 {
			checkRow(t, h, row)
			return
		}
		for _, p := range steps {
			row = append(row, p)
			deeper(left - 1)
			row = row[:len(row)-1]
		}
	}
	deeper(length)
}

func checkRow(t *testing.T, h shape, row []step) {
	t.Helper()
	s, m := h.state(t), h.model()
	for i, p := range row {
		if got, want := p.ofState(s), p.ofModel(m); got != want {
			t.Fatalf("%v = %swant %s", row[:i+1], got, want)
		}
	}
	// What a call leaves is probed at the end of the row that ends with it.
	probe(t, s, m, row)
}

// randomNumber is mostly one of a list of so many, else one beside it.
func randomNumber(r *rand.Rand, count int) int {
	if r.Intn(12) == 0 {
		list := outside(count)
		return list[r.Intn(len(list))]
	}
	return r.Intn(count + 1)
}

// randomValue is mostly of this type.
func randomValue(r *rand.Rand, typ int) api.Value {
	if r.Intn(8) == 0 {
		list := append(wrongValues(), value.Int(r.Int()), value.Float(r.Float64()), value.Bool(true))
		return list[r.Intn(len(list))]
	}
	switch typ {
	case api.TFloat:
		return value.Float(float64(r.Intn(3)))
	case api.TBool:
		return value.Bool(r.Intn(2) == 0)
	}
	return value.Int(r.Intn(3))
}

func randomStep(r *rand.Rand, h shape) step {
	calls := []string{"Read", "Write", "Write", "Lock", "Unlock", "Locked", "Send", "Send", "Send", "Recv", "Recv", "Len", "Room", "Get", "Put", "Add"}
	p := step{call: calls[r.Intn(len(calls))]}
	counts := map[string]int{"Read": len(h.places), "Write": len(h.places), "Send": len(h.chans), "Recv": len(h.chans), "Len": len(h.chans), "Room": len(h.chans),
		"Lock": h.mutexes, "Unlock": h.mutexes, "Locked": h.mutexes, "Get": h.atomics, "Put": h.atomics, "Add": h.atomics}
	p.i = randomNumber(r, counts[p.call])
	inside := p.i >= 0 && p.i < counts[p.call]
	switch {
	case p.call == "Write" && inside:
		p.v = randomValue(r, h.places[p.i])
	case p.call == "Send" && inside:
		p.v = randomValue(r, h.chans[p.i].Type)
	case p.call == "Put" || p.call == "Add":
		numbers := []int{0, 1, -1, math.MaxInt, math.MinInt, r.Int()}
		p.n = numbers[r.Intn(len(numbers))]
	}
	return p
}

func randomShape(r *rand.Rand) shape {
	h := shape{mutexes: r.Intn(4), atomics: r.Intn(4)}
	for range r.Intn(5) {
		h.places = append(h.places, 1+r.Intn(3))
	}
	for range r.Intn(4) {
		h.chans = append(h.chans, api.Chan{Type: 1 + r.Intn(3), Room: r.Intn(api.MaxRoom + 1)})
	}
	return h
}

// TestManyOrders does calls in long rows on states of many shapes, copies among them, each held against a model of its own; and Same of any two of them: P11.1.
func TestManyOrders(t *testing.T) {
	for seed := range int64(120) {
		r := rand.New(rand.NewSource(seed))
		h := randomShape(r)
		if seed%4 == 0 {
			h = some()
		}
		states, models := []*sync.State{h.state(t)}, []*model{h.model()}
		for turn := range 400 {
			i := r.Intn(len(states))
			if r.Intn(20) == 0 {
				from := r.Intn(len(states))
				s, m := states[from].Copy(), models[from].copy()
				if len(states) < 4 {
					states, models = append(states, s), append(models, m)
				} else {
					states[i], models[i] = s, m
				}
			}
			p := randomStep(r, h)
			if got, want := p.ofState(states[i]), p.ofModel(models[i]); got != want {
				t.Fatalf("seed %d, turn %d, state %d: %v = %swant %s", seed, turn, i, p, got, want)
			}
			if turn%10 == 0 {
				checkSame(t, states, models, fmt.Sprintf("seed %d, turn %d", seed, turn))
			}
		}
		for i := range states {
			probe(t, states[i], models[i], seed)
		}
	}
}

func checkSame(t *testing.T, states []*sync.State, models []*model, told string) {
	t.Helper()
	for i := range states {
		for j := range states {
			if got, want := sync.Same(states[i], states[j]), models[i].holds() == models[j].holds(); got != want {
				t.Fatalf("%s: Same of state %d and %d = %v, want %v", told, i, j, got, want)
			}
		}
	}
}

// TestSameOfFew does all short rows of calls on two states, so that states that are the same by other ways are met often.
func TestSameOfFew(t *testing.T) {
	h := shape{places: []int{api.TBool}, mutexes: 1, chans: []api.Chan{{Type: api.TInt, Room: 2}}, atomics: 1}
	steps := []step{
		{call: "Write", v: value.Bool(true)}, {call: "Write", v: value.Bool(false)}, {call: "Lock"}, {call: "Unlock"},
		{call: "Send", v: value.Int(1)}, {call: "Send", v: value.Int(2)}, {call: "Recv"}, {call: "Add", n: 1}, {call: "Add", n: -1},
	}
	var states []*sync.State
	var models []*model
	for _, first := range steps {
		for _, second := range steps {
			for _, third := range steps {
				s, m := h.state(t), h.model()
				for _, p := range []step{first, second, third} {
					p.ofState(s)
					p.ofModel(m)
				}
				states, models = append(states, s), append(models, m)
			}
		}
	}
	texts := make([]string, len(models))
	for i, m := range models {
		texts[i] = m.holds()
	}
	for i := range states {
		for j := range states {
			if got := sync.Same(states[i], states[j]); got != (texts[i] == texts[j]) {
				t.Fatalf("Same of %s and %s = %v", texts[i], texts[j], got)
			}
		}
	}
}
