package act_test

import (
	"fmt"
	"slices"
	"testing"

	"stockade/act"
	"stockade/api"
	"stockade/sync"
)

// A shape says what a state has.
type shape struct {
	places  []int
	mutexes int
	chans   []api.Chan
	atomics int
}

func (h shape) state(t *testing.T) *sync.State {
	t.Helper()
	s, err := sync.New(h.places, h.mutexes, h.chans, h.atomics)
	if err != nil {
		t.Fatal(err)
	}
	return s
}

// A diary writes down what a run asks of its Begin and its threads, in order.
type diary struct {
	begin act.Begin
	lines []string
	begun int
}

func (d *diary) of(fn int, args []api.Value) act.Thread {
	d.lines = append(d.lines, fmt.Sprintf("begin %d %v", fn, args))
	t := d.begin(fn, args)
	if t == nil {
		return nil
	}
	d.begun++
	return &asked{d, d.begun - 1, t}
}

type asked struct {
	d      *diary
	number int
	thread act.Thread
}

func (a *asked) Next(in api.Value) (act.Wait, act.Halt) {
	a.d.lines = append(a.d.lines, fmt.Sprintf("ask %d %v", a.number, in))
	return a.thread.Next(in)
}

// A model is what the chapter says of runs of scripts, in the plainest way: by maps, which have an element or not.
type model struct {
	scripts [][]act.Wait
	places  map[int]api.Value
	locked  map[int]bool
	chans   map[int]api.Chan
	held    map[int][]api.Value
	atomics map[int]int

	left   [][]act.Wait // of each goroutine the waits that it hasn't told
	waits  []act.Wait
	events []api.Event
	end    api.End
	lines  []string // what a diary would hold
}

func newModel(h shape, scripts [][]act.Wait) *model {
	m := &model{scripts: scripts, places: map[int]api.Value{}, locked: map[int]bool{}, chans: map[int]api.Chan{}, held: map[int][]api.Value{}, atomics: map[int]int{}}
	for i, typ := range h.places {
		m.places[i] = api.Value{Type: typ}
	}
	for i := range h.mutexes {
		m.locked[i] = false
	}
	for i, c := range h.chans {
		m.chans[i] = c
	}
	for i := range h.atomics {
		m.atomics[i] = 0
	}
	return m
}

func (m *model) start(fn int) {
	m.lines = append(m.lines, fmt.Sprintf("begin %d []", fn))
	if fn < 0 || fn >= len(m.scripts) {
		m.end = api.End{Outcome: api.Faulted, Fault: api.FaultGo}
		return
	}
	m.left, m.waits = append(m.left, m.scripts[fn]), append(m.waits, act.Wait{})
	m.ask(0, api.Value{})
	m.close()
}

func (m *model) ask(g int, in api.Value) {
	if m.end.Outcome == api.Faulted {
		return
	}
	m.lines = append(m.lines, fmt.Sprintf("ask %d %v", g, in))
	if len(m.left[g]) == 0 {
		m.waits[g] = act.Wait{Kind: api.EvEnd}
		return
	}
	w := m.left[g][0]
	m.left[g] = m.left[g][1:]
	if w.Kind == 0 {
		m.end = api.End{Outcome: api.Faulted, Fault: api.FaultFail, G: g, N: w.V.N, At: w.At}
		return
	}
	m.waits[g] = w
}

func (m *model) close() {
	if m.end.Outcome == api.Running && len(m.able()) == 0 {
		m.end.Outcome = api.Deadlock
		if !slices.ContainsFunc(m.waits, func(w act.Wait) bool { return w.Kind != 0 }) {
			m.end.Outcome = api.Finished
		}
	}
}

// able is the goroutines that can run; none of a run that has ended.
func (m *model) able() []int {
	var list []int
	for g, w := range m.waits {
		if m.end.Outcome == api.Running && m.can(w) {
			list = append(list, g)
		}
	}
	return list
}

func inForm(v api.Value, typ int) bool {
	switch typ {
	case api.TInt:
		return v == api.Value{Type: api.TInt, N: v.N}
	case api.TFloat:
		return v == api.Value{Type: api.TFloat, Bits: v.Bits}
	}
	return typ == api.TBool && (v == api.Value{Type: api.TBool} || v == api.Value{Type: api.TBool, N: 1})
}

func (m *model) can(w act.Wait) bool {
	place, isPlace := m.places[w.Obj]
	locked, isMutex := m.locked[w.Obj]
	c, isChan := m.chans[w.Obj]
	_, isAtomic := m.atomics[w.Obj]
	table := map[int]bool{
		api.EvRead:   isPlace,
		api.EvWrite:  isPlace && inForm(w.V, place.Type),
		api.EvLock:   isMutex && !locked,
		api.EvUnlock: isMutex,
		api.EvSend:   isChan && inForm(w.V, c.Type) && (len(m.held[w.Obj]) < c.Room || c.Room == 0 && m.first(w.Obj) >= 0),
		api.EvRecv:   isChan && len(m.held[w.Obj]) > 0,
		api.EvGet:    isAtomic,
		api.EvPut:    isAtomic && inForm(w.V, api.TInt),
		api.EvAdd:    isAtomic && inForm(w.V, api.TInt),
		api.EvGo:     true, api.EvTurn: true, api.EvEnd: true,
	}
	return table[w.Kind]
}

// first is the first goroutine that waits to receive of a channel.
func (m *model) first(c int) int {
	for g, w := range m.waits {
		if w.Kind == api.EvRecv && w.Obj == c {
			return g
		}
	}
	return -1
}

func (m *model) do(g int) {
	w := m.waits[g]
	done := api.Event{G: g, Kind: w.Kind, Obj: w.Obj, At: w.At}
	switch {
	case w.Kind == api.EvUnlock && !m.locked[w.Obj]:
		m.end = api.End{Outcome: api.Faulted, Fault: api.FaultUnlock, G: g, At: w.At}
	case w.Kind == api.EvGo:
		m.doGo(g, w)
	case w.Kind == api.EvEnd:
		m.events = append(m.events, done)
		m.waits[g] = act.Wait{}
	case w.Kind == api.EvSend && m.chans[w.Obj].Room == 0:
		to := m.first(w.Obj)
		m.events = append(m.events, done, api.Event{G: to, Kind: api.EvRecv, Obj: w.Obj, At: m.waits[to].At})
		m.ask(g, api.Value{})
		m.ask(to, w.V)
	default:
		m.events = append(m.events, done)
		m.ask(g, m.share(w))
	}
	m.close()
}

func (m *model) doGo(g int, w act.Wait) {
	number := len(m.waits)
	if number < 8 {
		m.lines = append(m.lines, fmt.Sprintf("begin %d %v", w.Obj, w.Args))
	}
	if number == 8 || w.Obj < 0 || w.Obj >= len(m.scripts) {
		m.end = api.End{Outcome: api.Faulted, Fault: api.FaultGo, G: g, At: w.At}
		return
	}
	m.left, m.waits = append(m.left, m.scripts[w.Obj]), append(m.waits, act.Wait{})
	m.events = append(m.events, api.Event{G: g, Kind: api.EvGo, Obj: number, At: w.At})
	m.ask(g, api.Value{})
	m.ask(number, api.Value{})
}

// share is what an event gives, and does with what is shared.
func (m *model) share(w act.Wait) (gave api.Value) {
	switch w.Kind {
	case api.EvRead:
		return m.places[w.Obj]
	case api.EvWrite:
		m.places[w.Obj] = w.V
	case api.EvLock:
		m.locked[w.Obj] = true
	case api.EvUnlock:
		m.locked[w.Obj] = false
	case api.EvSend:
		m.held[w.Obj] = append(m.held[w.Obj], w.V)
	case api.EvRecv:
		gave, m.held[w.Obj] = m.held[w.Obj][0], m.held[w.Obj][1:]
	case api.EvGet:
		return api.Value{Type: api.TInt, N: m.atomics[w.Obj]}
	case api.EvPut:
		m.atomics[w.Obj] = w.V.N
	case api.EvAdd:
		m.atomics[w.Obj] = int(uint(m.atomics[w.Obj]) + uint(w.V.N))
	}
	return gave
}

// play is as Play says; what the pick was asked is written down.
func (m *model) play(pick func(n int) int, fuel int) api.End {
	for m.end.Outcome == api.Running && len(m.events) < fuel {
		able := m.able()
		at := 0
		if len(able) > 1 {
			at = pick(len(able))
		}
		if at < 0 {
			at = 0
		}
		m.do(able[at%len(able)])
	}
	if m.end.Outcome == api.Running {
		return api.End{Outcome: api.FuelOut}
	}
	return m.end
}

// A both is a run and its model, side by side.
type both struct {
	t     *testing.T
	s     *sync.State
	d     *diary
	run   *act.Run
	model *model
	told  []any
}

func begin(t *testing.T, h shape, scripts [][]act.Wait, fn int) *both {
	t.Helper()
	b := &both{t: t, s: h.state(t), d: &diary{begin: act.Scripted(scripts)}, model: newModel(h, scripts)}
	b.run = act.Start(b.s, b.d.of, fn)
	b.model.start(fn)
	b.told = []any{"scripts", scripts, "function", fn, "done"}
	return b
}

// do does the event of a goroutine that can run.
func (b *both) do(g int) {
	b.t.Helper()
	b.told = append(b.told, g)
	if err := b.run.Do(g); err != nil {
		b.t.Fatalf("%v: Do(%d) = %v", b.told, g, err)
	}
	b.model.do(g)
}

// check asks everything there is to ask.
func (b *both) check() {
	b.t.Helper()
	same := func(what string, got, want any) {
		b.t.Helper()
		if g, w := fmt.Sprint(got), fmt.Sprint(want); g != w {
			b.t.Fatalf("%v: %s\n got %s\nwant %s", b.told, what, g, w)
		}
	}
	same("Runnable", b.run.Runnable(), b.model.able())
	same("End", b.run.End(), b.model.end)
	same("Waits", b.run.Waits(), b.model.waits)
	same("Events", b.run.Events(), b.model.events)
	same("Count", b.run.Count(), len(b.model.events))
	same("what was asked", b.d.lines, b.model.lines)
	for i, v := range b.model.places {
		got, _ := b.s.Read(i)
		same("a place", got, v)
	}
	for i, locked := range b.model.locked {
		same("a mutex", b.s.Locked(i), locked)
	}
	for i, n := range b.model.atomics {
		got, _ := b.s.Get(i)
		same("an atomic", got, n)
	}
	c := b.s.Copy()
	for i := range b.model.chans {
		same("a channel's length", b.s.Len(i), len(b.model.held[i]))
		for _, v := range b.model.held[i] {
			got, _, _ := c.Recv(i)
			same("a channel's value", got, v)
		}
	}
}

// refuse hands Do all numbers that it must refuse.
func (b *both) refuse() {
	b.t.Helper()
	want, able := api.ErrRange, b.model.able()
	if b.model.end.Outcome != api.Running {
		want = api.ErrState
	}
	n := len(b.model.waits)
	list := []int{-1 << 63, -n - 1, -1, n, n + 1, 8, 1<<63 - 1}
	for g := range n {
		list = append(list, g)
	}
	for _, g := range list {
		if slices.Contains(able, g) {
			continue
		}
		if err := b.run.Do(g); err != want {
			b.t.Fatalf("%v: Do(%d) = %v, want %v", b.told, g, err, want)
		}
	}
}
