package sync_test

import (
	"fmt"
	"math"
	"slices"
	"testing"

	"stockade/api"
	"stockade/sync"
	"stockade/value"
)

// The tests of P11.1 with wrong inputs: which error is answered, that all else is zero, and that nothing changes.

func TestNewRefuses(t *testing.T) {
	with := func(change func(*shape)) shape {
		h := some()
		change(&h)
		return h
	}
	var refused []shape
	for _, typ := range []int{0, 4, -1, math.MinInt, math.MaxInt} {
		for at := range len(some().places) {
			refused = append(refused, with(func(h *shape) { h.places[at] = typ }))
		}
		for at := range len(some().chans) {
			refused = append(refused, with(func(h *shape) { h.chans[at].Type = typ }))
		}
	}
	for _, room := range []int{-1, api.MaxRoom + 1, math.MinInt, math.MaxInt} {
		for at := range len(some().chans) {
			refused = append(refused, with(func(h *shape) { h.chans[at].Room = room }))
		}
	}
	for _, count := range []int{-1, api.MaxObjects + 1, math.MinInt, math.MaxInt} {
		refused = append(refused, with(func(h *shape) { h.mutexes = count }), with(func(h *shape) { h.atomics = count }))
	}
	for _, more := range []int{1, 1000} {
		refused = append(refused,
			with(func(h *shape) { h.places = slices.Repeat([]int{api.TInt}, api.MaxPlaces+more) }),
			with(func(h *shape) { h.chans = slices.Repeat([]api.Chan{{Type: api.TInt}}, api.MaxObjects+more) }))
	}
	for _, h := range refused {
		if s, err := sync.New(h.places, h.mutexes, h.chans, h.atomics); s != nil || err != api.ErrRange {
			t.Errorf("New of %v = %v, %v, want nil, %v", h, s, err, api.ErrRange)
		}
	}
}

// TestNewTakes: the greatest and the least that New takes, each by itself, and nil and empty lists.
func TestNewTakes(t *testing.T) {
	for _, h := range []shape{
		{}, {places: []int{}, chans: []api.Chan{}}, full(),
		{places: slices.Repeat([]int{api.TBool}, api.MaxPlaces)},
		{mutexes: api.MaxObjects}, {atomics: api.MaxObjects},
		{chans: slices.Repeat([]api.Chan{{Type: api.TFloat, Room: api.MaxRoom}}, api.MaxObjects)},
		{chans: []api.Chan{{Type: api.TBool, Room: 0}}},
	} {
		h.state(t)
	}
	if !sync.Same(shape{}.state(t), shape{places: []int{}, chans: []api.Chan{}}.state(t)) {
		t.Error("nil and empty lists make other states")
	}
}

// TestNewChangesNothing of what it is handed, spare room included.
func TestNewChangesNothing(t *testing.T) {
	places, chans := []int{1, 2, 3, 9, 9}, []api.Chan{{Type: 1, Room: 8}, {Type: 2}, {Type: 9, Room: 9}}
	s, err := sync.New(places[:3], 1, chans[:2], 1)
	if err != nil {
		t.Fatal(err)
	}
	want(t, "Write", fmt.Sprintln(s.Write(0, value.Int(7))), nil)
	want(t, "Send", fmt.Sprintln(s.Send(0, value.Int(7))), true, nil)
	if !slices.Equal(places, []int{1, 2, 3, 9, 9}) || !slices.Equal(chans, []api.Chan{{Type: 1, Room: 8}, {Type: 2}, {Type: 9, Room: 9}}) {
		t.Errorf("the lists are %v and %v now", places, chans)
	}
}

// busy is a state of some in which something has happened to each kind.
func busy(t *testing.T) *sync.State {
	t.Helper()
	s := some().state(t)
	for _, change := range changes() {
		change.do(t, s)
	}
	want(t, "Send", fmt.Sprintln(s.Send(1, value.Float(2.5))), true, nil)
	want(t, "Send", fmt.Sprintln(s.Send(2, value.Bool(true))), true, nil)
	return s
}

// outside is numbers that a list of so many elements doesn't have.
func outside(count int) []int {
	return []int{-1, count, count + 1, math.MinInt, math.MaxInt}
}

// TestNoSuchElement asks each call for each number that there is none of; a value that is wrong as well changes nothing of the answer.
func TestNoSuchElement(t *testing.T) {
	for _, h := range []shape{some(), {}, full()} {
		s := h.state(t)
		before := s.Copy()
		for _, i := range outside(len(h.places)) {
			want(t, fmt.Sprintf("Read(%d)", i), fmt.Sprintln(s.Read(i)), none(), api.ErrRange)
			for _, v := range append(wrongValues(), value.Int(1)) {
				want(t, fmt.Sprintf("Write(%d, %v)", i, v), fmt.Sprintln(s.Write(i, v)), api.ErrRange)
			}
		}
		for _, i := range outside(h.mutexes) {
			want(t, fmt.Sprintf("Lock(%d)", i), fmt.Sprintln(s.Lock(i)), false, api.ErrRange)
			want(t, fmt.Sprintf("Unlock(%d)", i), fmt.Sprintln(s.Unlock(i)), false, api.ErrRange)
			want(t, fmt.Sprintf("Locked(%d)", i), fmt.Sprintln(s.Locked(i)), false)
		}
		for _, i := range outside(len(h.chans)) {
			for _, v := range append(wrongValues(), value.Int(1)) {
				want(t, fmt.Sprintf("Send(%d, %v)", i, v), fmt.Sprintln(s.Send(i, v)), false, api.ErrRange)
			}
			want(t, fmt.Sprintf("Recv(%d)", i), fmt.Sprintln(s.Recv(i)), none(), false, api.ErrRange)
			want(t, fmt.Sprintf("Len and Room of %d", i), fmt.Sprintln(s.Len(i), s.Room(i)), 0, 0)
		}
		for _, i := range outside(h.atomics) {
			want(t, fmt.Sprintf("Get(%d)", i), fmt.Sprintln(s.Get(i)), 0, api.ErrRange)
			want(t, fmt.Sprintf("Put(%d)", i), fmt.Sprintln(s.Put(i, 1)), api.ErrRange)
			want(t, fmt.Sprintf("Add(%d)", i), fmt.Sprintln(s.Add(i, 1)), api.ErrRange)
		}
		if !sync.Same(s, before) {
			t.Errorf("refused calls changed a state of %v", h)
		}
	}
}

// wrongValues are in no form.
func wrongValues() []api.Value {
	return []api.Value{
		{}, {Type: 4}, {Type: -1}, {Type: 0, N: 1},
		{Type: api.TInt, Bits: 1}, {Type: api.TInt, N: 5, Bits: math.MaxUint64},
		{Type: api.TFloat, N: 1}, {Type: api.TFloat, N: -1, Bits: 1},
		{Type: api.TBool, N: 2}, {Type: api.TBool, N: -1}, {Type: api.TBool, Bits: 1}, {Type: api.TBool, N: 1, Bits: 1},
	}
}

// TestWrongValues: those in no form, and those of another type, are refused by each place and each channel, be it empty, full, or without room.
func TestWrongValues(t *testing.T) {
	h := some()
	for _, s := range []*sync.State{h.state(t), busy(t)} {
		before := s.Copy()
		for i, typ := range h.places {
			for _, v := range wrongFor(typ) {
				want(t, fmt.Sprintf("Write(%d, %v)", i, v), fmt.Sprintln(s.Write(i, v)), api.ErrType)
			}
		}
		for i, c := range h.chans {
			for _, v := range wrongFor(c.Type) {
				want(t, fmt.Sprintf("Send(%d, %v)", i, v), fmt.Sprintln(s.Send(i, v)), false, api.ErrType)
			}
		}
		if !sync.Same(s, before) {
			t.Error("refused values changed the state")
		}
	}
}

// wrongFor is values that an element of this type refuses.
func wrongFor(typ int) []api.Value {
	list := wrongValues()
	for _, v := range []api.Value{value.Int(1), value.Int(0), value.Float(1), value.Float(0), value.Bool(true), value.Bool(false)} {
		if v.Type != typ {
			list = append(list, v)
		}
	}
	return list
}
