package sync_test

import (
	"fmt"
	"math"
	"testing"

	"stockade/api"
	"stockade/sync"
	"stockade/value"
)

// The tests of P11.1: every call answers what is told, at the edges. wrong_test.go has the wrong inputs, model_test.go the many orders; chan_test.go has P11.2.

// A shape is what New is handed.
type shape struct {
	places  []int
	mutexes int
	chans   []api.Chan
	atomics int
}

func (h shape) state(t *testing.T) *sync.State {
	t.Helper()
	s, err := sync.New(h.places, h.mutexes, h.chans, h.atomics)
	if err != nil || s == nil {
		t.Fatalf("New of %v = %v, %v", h, s, err)
	}
	return s
}

// some has several elements of each kind, of each type.
func some() shape {
	return shape{
		places:  []int{api.TInt, api.TFloat, api.TBool, api.TInt},
		mutexes: 3,
		chans: []api.Chan{
			{Type: api.TInt, Room: 1}, {Type: api.TFloat, Room: 2}, {Type: api.TBool, Room: 3},
			{Type: api.TInt, Room: 0}, {Type: api.TInt, Room: api.MaxRoom},
		},
		atomics: 3,
	}
}

// full has as many elements of each kind as there may be.
func full() shape {
	h := shape{mutexes: api.MaxObjects, atomics: api.MaxObjects}
	for i := range api.MaxPlaces {
		h.places = append(h.places, 1+i%3)
	}
	for i := range api.MaxObjects {
		h.chans = append(h.chans, api.Chan{Type: 1 + i%3, Room: i % (api.MaxRoom + 1)})
	}
	return h
}

// want holds what a call answers against what it should, both as texts.
func want(t *testing.T, told, got string, answers ...any) {
	t.Helper()
	if w := fmt.Sprintln(answers...); got != w {
		t.Errorf("%s = %swant %s", told, got, w)
	}
}

func none() api.Value { return api.Value{} }

func TestNewIsZero(t *testing.T) {
	for _, h := range []shape{some(), full()} {
		s := h.state(t)
		for i, typ := range h.places {
			want(t, fmt.Sprintf("Read(%d)", i), fmt.Sprintln(s.Read(i)), api.Value{Type: typ}, nil)
		}
		for i := range h.mutexes {
			want(t, fmt.Sprintf("Locked(%d)", i), fmt.Sprintln(s.Locked(i)), false)
			want(t, fmt.Sprintf("Unlock(%d)", i), fmt.Sprintln(s.Unlock(i)), false, nil)
		}
		for i, c := range h.chans {
			want(t, fmt.Sprintf("Len and Room of %d", i), fmt.Sprintln(s.Len(i), s.Room(i)), 0, c.Room)
			want(t, fmt.Sprintf("Recv(%d)", i), fmt.Sprintln(s.Recv(i)), none(), false, nil)
		}
		for i := range h.atomics {
			want(t, fmt.Sprintf("Get(%d)", i), fmt.Sprintln(s.Get(i)), 0, nil)
		}
	}
}

// TestChannelsTypes: a state knows the type of each of its channels, at its first value too, and without room.
func TestChannelsTypes(t *testing.T) {
	h := full()
	s := h.state(t)
	for i, c := range h.chans {
		for typ := api.TInt; typ <= api.TBool; typ++ {
			ok, err := s.Copy().Send(i, value.Zero(typ))
			if typ != c.Type {
				want(t, fmt.Sprintf("Send(%d) of type %d", i, typ), fmt.Sprintln(ok, err), false, api.ErrType)
				continue
			}
			want(t, fmt.Sprintf("Send(%d) of type %d", i, typ), fmt.Sprintln(ok, err), c.Room > 0, nil)
		}
	}
}

func TestPlaces(t *testing.T) {
	s := some().state(t)
	for i, v := range []api.Value{value.Int(math.MinInt), value.Float(math.Copysign(0, -1)), value.Bool(true), value.Int(7)} {
		want(t, "Write", fmt.Sprintln(s.Write(i, v)), nil)
		want(t, "Read", fmt.Sprintln(s.Read(i)), v, nil)
	}
	want(t, "Read(0), the others written", fmt.Sprintln(s.Read(0)), value.Int(math.MinInt), nil)
	nan := api.Value{Type: api.TFloat, Bits: 0x7ff0000000000123}
	want(t, "Write of a NaN", fmt.Sprintln(s.Write(1, nan)), nil)
	want(t, "Read of its bits", fmt.Sprintln(s.Read(1)), nan, nil)
	want(t, "Write of what stands there", fmt.Sprintln(s.Write(1, nan)), nil)
}

func TestMutexes(t *testing.T) {
	s := some().state(t)
	for i, call := range []struct {
		told string
		call func(int) (bool, error)
		ok   bool
	}{
		{"Unlock of one that isn't locked", s.Unlock, false},
		{"Lock", s.Lock, true},
		{"Lock of a locked one", s.Lock, false},
		{"Lock of a locked one again", s.Lock, false},
		{"Unlock", s.Unlock, true},
		{"Unlock again", s.Unlock, false},
		{"Lock again", s.Lock, true},
	} {
		ok, err := call.call(1)
		want(t, fmt.Sprint(i, ": ", call.told), fmt.Sprintln(ok, err), call.ok, nil)
	}
	want(t, "Locked, of all", fmt.Sprintln(s.Locked(0), s.Locked(1), s.Locked(2)), false, true, false)
}

// TestExamples are the chapter's.
func TestExamples(t *testing.T) {
	s := some().state(t)
	want(t, "Send", fmt.Sprintln(s.Send(0, value.Int(7))), true, nil)
	want(t, "Send to the full one", fmt.Sprintln(s.Send(0, value.Int(8))), false, nil)
	want(t, "Len", fmt.Sprintln(s.Len(0)), 1)
	want(t, "Recv", fmt.Sprintln(s.Recv(0)), value.Int(7), true, nil)
	want(t, "Recv of the empty one", fmt.Sprintln(s.Recv(0)), none(), false, nil)
	for range 3 {
		want(t, "Send, room 0", fmt.Sprintln(s.Send(3, value.Int(7))), false, nil)
		want(t, "Recv, room 0", fmt.Sprintln(s.Recv(3)), none(), false, nil)
		want(t, "Len, Room, room 0", fmt.Sprintln(s.Len(3), s.Room(3)), 0, 0)
	}
}

func TestGreatestRoom(t *testing.T) {
	s := some().state(t)
	for i := range api.MaxRoom {
		want(t, "Send", fmt.Sprintln(s.Send(4, value.Int(i))), true, nil)
		want(t, "Len, Room", fmt.Sprintln(s.Len(4), s.Room(4)), i+1, api.MaxRoom)
	}
	want(t, "Send, one more", fmt.Sprintln(s.Send(4, value.Int(99))), false, nil)
	for i := range api.MaxRoom {
		want(t, "Recv", fmt.Sprintln(s.Recv(4)), value.Int(i), true, nil)
		want(t, "Len, Room", fmt.Sprintln(s.Len(4), s.Room(4)), api.MaxRoom-1-i, api.MaxRoom)
	}
	want(t, "Recv, one more", fmt.Sprintln(s.Recv(4)), none(), false, nil)
}

// TestZeroIsAValue: a zero that was sent isn't taken for none.
func TestZeroIsAValue(t *testing.T) {
	s := some().state(t)
	for i, typ := range []int{api.TInt, api.TFloat, api.TBool} {
		want(t, "Send", fmt.Sprintln(s.Send(i, value.Zero(typ))), true, nil)
		want(t, "Recv", fmt.Sprintln(s.Recv(i)), value.Zero(typ), true, nil)
		want(t, "Recv, one more", fmt.Sprintln(s.Recv(i)), none(), false, nil)
	}
}

func TestAtomics(t *testing.T) {
	for _, c := range []struct{ n, add, sum int }{
		{5, 2, 7}, {5, -7, -2}, {0, 0, 0},
		{math.MaxInt, 1, math.MinInt}, {math.MinInt, -1, math.MaxInt}, {math.MinInt, math.MinInt, 0},
		{math.MaxInt, math.MaxInt, -2}, {1, math.MaxInt, math.MinInt}, {math.MaxInt, math.MinInt, -1},
	} {
		s := some().state(t)
		want(t, "Put", fmt.Sprintln(s.Put(1, c.n)), nil)
		want(t, "Get", fmt.Sprintln(s.Get(1)), c.n, nil)
		want(t, "Add", fmt.Sprintln(s.Add(1, c.add)), nil)
		want(t, fmt.Sprintf("Get behind %d and %d", c.n, c.add), fmt.Sprintln(s.Get(1)), c.sum, nil)
		want(t, "Put again", fmt.Sprintln(s.Put(1, c.n)), nil)
		want(t, "Get of what was put", fmt.Sprintln(s.Get(1)), c.n, nil)
		want(t, "Get of the one ahead", fmt.Sprintln(s.Get(0)), 0, nil)
		want(t, "Get of the one behind", fmt.Sprintln(s.Get(2)), 0, nil)
	}
}

// TestKindsApart: elements of one number, each of another kind, are not one another's.
func TestKindsApart(t *testing.T) {
	for i, change := range changes() {
		s := some().state(t)
		change.do(t, s)
		for j, other := range changes() {
			seen := other.asked(s) != other.asked(some().state(t))
			if seen != (i == j) {
				t.Errorf("%s: what %s changes has changed: %v", change.told, other.told, seen)
			}
		}
	}
}

// A change makes a state of some another one in one thing, which is told by asked.
type change struct {
	told  string
	do    func(*testing.T, *sync.State)
	asked func(*sync.State) string
}

func changes() []change {
	return []change{
		{"Write", func(t *testing.T, s *sync.State) {
			want(t, "Write", fmt.Sprintln(s.Write(0, value.Int(1))), nil)
		}, func(s *sync.State) string { return fmt.Sprintln(s.Read(0)) }},
		{"Write of the last", func(t *testing.T, s *sync.State) {
			want(t, "Write", fmt.Sprintln(s.Write(3, value.Int(1))), nil)
		}, func(s *sync.State) string { return fmt.Sprintln(s.Read(3)) }},
		{"Lock", func(t *testing.T, s *sync.State) {
			want(t, "Lock", fmt.Sprintln(s.Lock(0)), true, nil)
		}, func(s *sync.State) string { return fmt.Sprintln(s.Locked(0)) }},
		{"Lock of the last", func(t *testing.T, s *sync.State) {
			want(t, "Lock", fmt.Sprintln(s.Lock(2)), true, nil)
		}, func(s *sync.State) string { return fmt.Sprintln(s.Locked(2)) }},
		{"Send", func(t *testing.T, s *sync.State) {
			want(t, "Send", fmt.Sprintln(s.Send(0, value.Int(1))), true, nil)
		}, func(s *sync.State) string { return fmt.Sprintln(s.Len(0)) }},
		{"Send to the last", func(t *testing.T, s *sync.State) {
			want(t, "Send", fmt.Sprintln(s.Send(4, value.Int(1))), true, nil)
		}, func(s *sync.State) string { return fmt.Sprintln(s.Len(4)) }},
		{"Put", func(t *testing.T, s *sync.State) {
			want(t, "Put", fmt.Sprintln(s.Put(0, 1)), nil)
		}, func(s *sync.State) string { return fmt.Sprintln(s.Get(0)) }},
		{"Add to the last", func(t *testing.T, s *sync.State) {
			want(t, "Add", fmt.Sprintln(s.Add(2, 1)), nil)
		}, func(s *sync.State) string { return fmt.Sprintln(s.Get(2)) }},
	}
}

// TestCopy: behind Copy, a call on one of the two changes nothing of the other, in both directions.
func TestCopy(t *testing.T) {
	for _, change := range changes() {
		s := some().state(t)
		c := s.Copy()
		if !sync.Same(s, c) || !sync.Same(c, s) {
			t.Fatalf("a copy isn't the same")
		}
		zero := change.asked(s)
		change.do(t, s)
		if change.asked(c) != zero || sync.Same(s, c) || sync.Same(c, s) {
			t.Errorf("%s of the first is the copy's too", change.told)
		}
		change.do(t, c)
		if !sync.Same(s, c) || !sync.Same(c, s) {
			t.Errorf("%s of both: they aren't the same", change.told)
		}
		d := s.Copy()
		other := some().state(t)
		change.do(t, other)
		if !sync.Same(d, other) {
			t.Errorf("%s: the copy behind it isn't the same", change.told)
		}
	}
}

// TestCopyOfValues: the values that a channel holds are the copy's own, with spare room behind them and without it.
func TestCopyOfValues(t *testing.T) {
	for held := range api.MaxRoom + 1 {
		s := some().state(t)
		for i := range held {
			want(t, "Send", fmt.Sprintln(s.Send(4, value.Int(i))), true, nil)
		}
		c := s.Copy()
		for i := held; i < api.MaxRoom; i++ {
			want(t, "Send", fmt.Sprintln(s.Send(4, value.Int(100+i))), true, nil)
			want(t, "Send to the copy", fmt.Sprintln(c.Send(4, value.Int(200+i))), true, nil)
		}
		for i := range api.MaxRoom {
			first, second := i, i
			if i >= held {
				first, second = 100+i, 200+i
			}
			want(t, "Recv", fmt.Sprintln(s.Recv(4)), value.Int(first), true, nil)
			want(t, "Recv of the copy", fmt.Sprintln(c.Recv(4)), value.Int(second), true, nil)
		}
	}
}

// TestSameOfShapes: states of other shapes aren't the same, however little they hold.
func TestSameOfShapes(t *testing.T) {
	shapes := []shape{
		{}, some(), full(),
		{places: []int{api.TInt}}, {places: []int{api.TFloat}}, {places: []int{api.TBool}}, {places: []int{api.TInt, api.TInt}},
		{places: []int{api.TInt, api.TBool}}, {places: []int{api.TBool, api.TInt}},
		{mutexes: 1}, {mutexes: 2}, {atomics: 1}, {atomics: 2}, {mutexes: 1, atomics: 1},
		{chans: []api.Chan{{Type: api.TInt}}}, {chans: []api.Chan{{Type: api.TFloat}}}, {chans: []api.Chan{{Type: api.TInt, Room: 1}}},
		{chans: []api.Chan{{Type: api.TInt}, {Type: api.TInt}}}, {chans: []api.Chan{{Type: api.TInt}, {Type: api.TInt, Room: 1}}},
		{chans: []api.Chan{{Type: api.TInt, Room: 1}, {Type: api.TInt}}},
	}
	for i, a := range shapes {
		for j, b := range shapes {
			if got := sync.Same(a.state(t), b.state(t)); got != (i == j) {
				t.Errorf("Same of %v and %v = %v", a, b, got)
			}
			if got := sync.Same(a.state(t).Copy(), b.state(t)); got != (i == j) {
				t.Errorf("Same of a copy of %v and %v = %v", a, b, got)
			}
		}
	}
}

// TestSameOfRows: of channels the values, and their order, are held against each other, and not what went through.
func TestSameOfRows(t *testing.T) {
	rows := [][]int{nil, {1}, {2}, {1, 2}, {2, 1}, {1, 1}, {1, 2, 3}, {0}, {0, 0}}
	for i, a := range rows {
		for j, b := range rows {
			s, c := some().state(t), some().state(t)
			want(t, "Send", fmt.Sprintln(s.Send(4, value.Int(9))), true, nil)
			want(t, "Recv", fmt.Sprintln(s.Recv(4)), value.Int(9), true, nil)
			for _, n := range a {
				want(t, "Send", fmt.Sprintln(s.Send(4, value.Int(n))), true, nil)
			}
			for _, n := range b {
				want(t, "Send", fmt.Sprintln(c.Send(4, value.Int(n))), true, nil)
			}
			if got := sync.Same(s, c); got != (i == j) {
				t.Errorf("Same of %v and %v = %v", a, b, got)
			}
		}
	}
}

// TestSameOfFloats: as layer 10 says, all fields are the same, so NaNs of the same bits are, and the two zeros aren't.
func TestSameOfFloats(t *testing.T) {
	bits := []uint64{0, 1 << 63, 0x7ff8000000000001, 0x7ff8000000000002, math.Float64bits(1)}
	for _, a := range bits {
		for _, b := range bits {
			s, c := some().state(t), some().state(t)
			want(t, "Write", fmt.Sprintln(s.Write(1, api.Value{Type: api.TFloat, Bits: a})), nil)
			want(t, "Write", fmt.Sprintln(c.Write(1, api.Value{Type: api.TFloat, Bits: b})), nil)
			if got := sync.Same(s, c); got != (a == b) {
				t.Errorf("places: Same of bits %x and %x = %v", a, b, got)
			}
			s, c = some().state(t), some().state(t)
			want(t, "Send", fmt.Sprintln(s.Send(1, api.Value{Type: api.TFloat, Bits: a})), true, nil)
			want(t, "Send", fmt.Sprintln(c.Send(1, api.Value{Type: api.TFloat, Bits: b})), true, nil)
			if got := sync.Same(s, c); got != (a == b) {
				t.Errorf("channels: Same of bits %x and %x = %v", a, b, got)
			}
		}
	}
}

// TestStatesApart: two states of one configuration share nothing, nor do they keep the lists that New was handed.
func TestStatesApart(t *testing.T) {
	h := some()
	a, b := h.state(t), h.state(t)
	for _, change := range changes() {
		change.do(t, a)
	}
	if !sync.Same(b, some().state(t)) {
		t.Error("calls on one state changed another one")
	}
	h.places[0], h.chans[0] = api.TBool, api.Chan{Type: api.TBool, Room: 5}
	if !sync.Same(b, some().state(t)) || b.Room(0) != 1 {
		t.Error("the state keeps a list that it was handed")
	}
	want(t, "Write", fmt.Sprintln(b.Write(0, value.Int(1))), nil)
	want(t, "Send", fmt.Sprintln(b.Send(0, value.Int(1))), true, nil)
}
