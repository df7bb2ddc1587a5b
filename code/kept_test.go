package code_test

import (
	"bytes"
	"math"
	"slices"
	"testing"

	"stockade/api"
	"stockade/code"
)

// The tests of P14.1 on what is handed in and what is answered: nothing is changed, kept or shared.

// roomy is a code whose lists have elements behind them that are none of the code's.
func roomy(c api.Code) api.Code {
	c = apart(c)
	c.Places = append(c.Places, 77, 78)[:len(c.Places)]
	c.Chans = append(c.Chans, api.Chan{Type: 77}, api.Chan{Room: 78})[:len(c.Chans)]
	for i, f := range c.Funcs {
		c.Funcs[i].Locals = append(f.Locals, 77, 78)[:len(f.Locals)]
	}
	c.Funcs = append(c.Funcs, api.Entry{Start: 77, Locals: []int{1}}, api.Entry{Start: 78})[:len(c.Funcs)]
	c.Body = append(c.Body, api.Instr{Op: 77}, api.Instr{A: 78})[:len(c.Body)]
	return c
}

// whole is a code with all that stands in its lists' spare room.
func whole(c api.Code) api.Code {
	c.Places, c.Chans, c.Body = c.Places[:cap(c.Places)], c.Chans[:cap(c.Chans)], c.Body[:cap(c.Body)]
	c.Funcs = slices.Clone(c.Funcs[:cap(c.Funcs)])
	for i, f := range c.Funcs {
		c.Funcs[i].Locals = f.Locals[:cap(f.Locals)]
	}
	return apart(c)
}

func TestCodesAreNotChanged(t *testing.T) {
	for _, c := range []api.Code{
		roomy(rich()), roomy(least()), roomy(mixed()), roomy(greatest()), roomy(api.Code{}),
		roomy(with(rich(), func(c *api.Code) { c.Main = 7 })),
		roomy(with(rich(), func(c *api.Code) { c.Body[25].Bits = 1 })),
	} {
		before := whole(c)
		err := code.Check(c)
		_, put := code.Put(c)
		self, other := code.Same(c, c), code.Same(c, with(c, func(c *api.Code) { c.Main++ }))
		if !modelSame(before, whole(c)) {
			t.Errorf("the code is %v now, and was %v", whole(c), before)
		}
		if err != put || !self || other {
			t.Error(err, put, self, other)
		}
	}
}

func TestBytesAreNotChanged(t *testing.T) {
	for _, b := range [][]byte{leastBytes(t), mixedBytes(t), leastBytes(t)[:30], bytes.Repeat([]byte{0xff}, 100)} {
		room := append(slices.Clone(b), 1, 2, 3, 4, 5)
		before := slices.Clone(room)
		code.Get(room[:len(b)])
		if !bytes.Equal(room, before) {
			t.Errorf("the bytes are %x now, and were %x", room, before)
		}
	}
}

// scribble sets all that a code's lists hold, their spare room too.
func scribble(c api.Code) {
	set := func(list []int) {
		for i := range list[:cap(list)] {
			list[:cap(list)][i] = -5
		}
	}
	set(c.Places)
	for i := range c.Chans[:cap(c.Chans)] {
		c.Chans[:cap(c.Chans)][i] = api.Chan{Type: -5, Room: -5}
	}
	for i := range c.Funcs {
		set(c.Funcs[i].Locals)
	}
	for i := range c.Funcs[:cap(c.Funcs)] {
		c.Funcs[:cap(c.Funcs)][i] = api.Entry{Start: -5, Params: -5}
	}
	for i := range c.Body[:cap(c.Body)] {
		c.Body[:cap(c.Body)][i] = api.Instr{Op: -5, A: -5, B: -5, Bits: math.MaxUint64, At: -5}
	}
}

func TestPutSharesNothing(t *testing.T) {
	c := rich()
	b, err := code.Put(c)
	again, err2 := code.Put(c)
	if err != nil || err2 != nil {
		t.Fatal(err, err2)
	}
	for i := range b[:cap(b)] {
		b[:cap(b)][i] = 0xee
	}
	if !bytes.Equal(again, modelBytes(rich())) || !modelSame(c, rich()) {
		t.Error("an answer's bytes are another one's")
	}
	scribble(c)
	if !bytes.Equal(again, modelBytes(rich())) {
		t.Error("an answer's bytes are the code's")
	}
}

func TestGetSharesNothing(t *testing.T) {
	b := modelBytes(rich())
	c, err := code.Get(b)
	d, err2 := code.Get(b)
	if err != nil || err2 != nil {
		t.Fatal(err, err2)
	}
	scribble(c)
	if !modelSame(d, rich()) || !bytes.Equal(b, modelBytes(rich())) {
		t.Error("an answer's lists are another one's, or the bytes'")
	}
	for i := range b {
		b[i] = 0xee
	}
	if !modelSame(d, rich()) {
		t.Error("an answer's lists are the bytes'")
	}
}

// TestGetListsShareNothing: growing or setting one list of an answer leaves all others.
func TestGetListsShareNothing(t *testing.T) {
	for i := range rich().Funcs {
		c, err := code.Get(modelBytes(rich()))
		if err != nil {
			t.Fatal(err)
		}
		locals := c.Funcs[i].Locals
		for j := range locals[:cap(locals)] {
			locals[:cap(locals)][j] = -5
		}
		c.Funcs[i].Locals = slices.Clone(rich().Funcs[i].Locals)
		if !modelSame(c, rich()) {
			t.Errorf("the locals of %d are another list's: %v", i, c)
		}
	}
	c, err := code.Get(modelBytes(rich()))
	if err != nil {
		t.Fatal(err)
	}
	for i := range c.Places[:cap(c.Places)] {
		c.Places[:cap(c.Places)][i] = -5
	}
	c.Places = rich().Places
	if !modelSame(c, rich()) {
		t.Errorf("the places are another list's: %v", c)
	}
}

// TestNothingIsKept: what was asked before changes no answer.
func TestNothingIsKept(t *testing.T) {
	for range 3 {
		takes(t, "rich", rich())
		refuses(t, "nothing", api.Code{})
		takes(t, "mixed", mixed())
		refusesBytes(t, "none", nil)
		refuses(t, "Op 0", with(least(), func(c *api.Code) { c.Body[0].Op = 0 }))
		takes(t, "least", least())
	}
}
