package code_test

import (
	"bytes"
	"encoding/hex"
	"fmt"
	"runtime"
	"slices"
	"strings"
	"testing"

	"stockade/api"
	"stockade/code"
)

// The tests of P14.1 on bytes: Put's are written out by hand, and Get takes no others.

// written is bytes in hex, in any parts, with blanks between.
func written(t *testing.T, parts ...string) []byte {
	t.Helper()
	b, err := hex.DecodeString(strings.ReplaceAll(strings.Join(parts, ""), " ", ""))
	if err != nil {
		t.Fatal(err)
	}
	return b
}

func leastBytes(t *testing.T) []byte {
	return written(t,
		"00000000 00000000 00000000 00000000 00000001 00000001 00000000", // no places, mutexes, atomics, channels; one function, one instruction; Main
		"00000000 00000000 00000000",                                     // the function: Start, Params, no locals
		"19 0000000000000000 00000000 0000000000000000 00000000",         // Return
	)
}

// mixed is a code of which each number differs from those beside it, as far as it may.
func mixed() api.Code {
	return api.Code{
		Places:  []int{api.TInt, api.TFloat, api.TFloat, api.TFloat, api.TBool},
		Mutexes: 6,
		Atomics: 7,
		Chans:   []api.Chan{{Type: api.TFloat, Room: 8}, {Type: api.TBool, Room: 5}},
		Funcs: []api.Entry{
			{Start: 0, Params: 2, Locals: []int{api.TBool, api.TInt, api.TFloat}},
			{Start: 2, Params: 1, Locals: []int{api.TFloat}},
			{Start: 5, Params: 0, Locals: nil},
		},
		Main: 2,
		Body: []api.Instr{
			{Op: opInt, A: 0x0123456789abcdef, At: 0x1234},
			{Op: opFloat, Bits: 0xfedcba9876543210, At: api.MaxText},
			{Op: opReadElem, A: 1, B: 3, At: 0x00ff},
			{Op: opShort, A: 6, B: 1, At: 0x0100},
			{Op: opAdd, A: 5},
			{Op: opCall, A: 1, At: 1},
			{Op: opFail, At: 2},
		},
	}
}

func mixedBytes(t *testing.T) []byte {
	return written(t,
		"00000005 00000006 00000007 00000002 00000003 00000007 00000002",
		"00000001 00000002 00000002 00000002 00000003",
		"00000002 00000008", "00000003 00000005",
		"00000000 00000002 00000003 00000003 00000001 00000002",
		"00000002 00000001 00000001 00000002",
		"00000005 00000000 00000000",
		"01 0123456789abcdef 00000000 0000000000000000 00001234",
		"02 0000000000000000 00000000 fedcba9876543210 00002000",
		"08 0000000000000001 00000003 0000000000000000 000000ff",
		"0e 0000000000000006 00000001 0000000000000000 00000100",
		"15 0000000000000005 00000000 0000000000000000 00000000",
		"17 0000000000000001 00000000 0000000000000000 00000001",
		"1a 0000000000000000 00000000 0000000000000000 00000002",
	)
}

func TestBytesByHand(t *testing.T) {
	for _, x := range []struct {
		c api.Code
		b []byte
	}{{least(), leastBytes(t)}, {mixed(), mixedBytes(t)}} {
		if b, err := code.Put(x.c); err != nil || !bytes.Equal(b, x.b) {
			t.Errorf("Put = %x, %v, want %x", b, err, x.b)
		}
		if c, err := code.Get(x.b); err != nil || !modelSame(c, x.c) {
			t.Errorf("Get = %v, %v, want %v", c, err, x.c)
		}
	}
	if b, err := code.Put(greatest()); err != nil || len(b) != 28+128*4+11*8+16*(12+32*4)+8192*25 {
		t.Error(len(b), err)
	}
}

// TestCutShort at every byte, as it is and with other bytes in the room behind.
func TestCutShort(t *testing.T) {
	for _, b := range [][]byte{leastBytes(t), mixedBytes(t), modelBytes(rich())} {
		for n := range len(b) {
			refusesBytes(t, fmt.Sprint("cut at ", n), b[:n])
			refusesBytes(t, fmt.Sprint("cut at ", n), slices.Clone(b[:n]))
			refusesBytes(t, fmt.Sprint("from on ", n+1), b[n+1:])
			refusesBytes(t, fmt.Sprint("without byte ", n), slices.Delete(slices.Clone(b), n, n+1))
		}
	}
	refusesBytes(t, "none", nil)
	refusesBytes(t, "none", []byte{})
	big := modelBytes(greatest())
	for n := 1; n <= 60; n++ {
		refusesBytes(t, "the greatest, cut", big[:len(big)-n])
	}
}

func TestBytesBehind(t *testing.T) {
	for _, b := range [][]byte{leastBytes(t), mixedBytes(t), modelBytes(rich())} {
		for _, more := range [][]byte{{0}, {1}, {255}, {0, 0, 0, 0}, make([]byte, 25), b[len(b)-25:], b} {
			refusesBytes(t, "bytes behind", slices.Concat(b, more))
			refusesBytes(t, "bytes ahead", slices.Concat(more[:1], b))
		}
		for n := range len(b) {
			refusesBytes(t, fmt.Sprint("one more at ", n), slices.Insert(slices.Clone(b), n, 0x7f))
		}
	}
	if c, err := code.Get(append(leastBytes(t), 9)[:len(leastBytes(t))]); err != nil || !modelSame(c, least()) {
		t.Error("spare room isn't bytes behind", err)
	}
}

// TestEachByteChanged to each other one: what Get takes is in form by the model and of just these bytes; what it refuses has nothing in form with these bytes.
func TestEachByteChanged(t *testing.T) {
	took := 0
	for _, b := range [][]byte{leastBytes(t), mixedBytes(t), modelBytes(rich())} {
		for at := range b {
			for by := 1; by < 256; by++ {
				changed := slices.Clone(b)
				changed[at] += byte(by)
				if holds(t, changed) {
					took++
				}
			}
		}
	}
	if took < 1000 {
		t.Error("so few were taken: ", took)
	}
}

// holds asks Get of bytes against the model, and tells whether it takes them.
func holds(t *testing.T, b []byte) bool {
	t.Helper()
	want, whole := modelRead(b)
	if !whole || !modelForm(want) {
		refusesBytes(t, "changed bytes", b)
		return false
	}
	c, err := code.Get(b)
	if err != nil || !modelSame(c, want) {
		t.Errorf("Get of %x = %v, %v, want %v", b, c, err, want)
		return false
	}
	if again, err := code.Put(c); err != nil || !bytes.Equal(again, b) {
		t.Errorf("Put of Get of %x = %x, %v", b, again, err)
	}
	return true
}

// TestHandChangedBytes: some of the changes of TestEachByteChanged, told without the model.
func TestHandChangedBytes(t *testing.T) {
	const body = 28 + 5*4 + 2*8 + 24 + 16 + 12 // where the first instruction begins
	for _, x := range []struct {
		at   int
		to   byte
		want func(c *api.Code) // nil, if it is refused
	}{
		{0, 1, nil}, {3, 1, nil}, {3, 0xff, nil},
		{7, 5, func(c *api.Code) { c.Mutexes = 5 }},
		{7, 32 - 9, func(c *api.Code) { c.Mutexes = 23 }},
		{7, 32 - 8, nil}, {4, 0x80, nil}, {4, 0xff, nil}, {6, 1, nil},
		{11, 6, func(c *api.Code) { c.Atomics = 6 }},
		{11, 5, nil}, // atomic 5 is there no more
		{11, 24, func(c *api.Code) { c.Atomics = 24 }},
		{11, 25, nil}, {8, 0x80, nil}, {15, 1, nil}, {15, 3, nil}, {19, 2, nil}, {19, 4, nil}, {23, 6, nil}, {23, 8, nil},
		{27, 0, nil}, {27, 1, nil}, {27, 3, nil}, {24, 0x80, nil}, // others have parameters
		{31, 3, func(c *api.Code) { c.Places[0] = 3 }}, {31, 0, nil}, {31, 4, nil}, {28, 1, nil},
		{35, 1, nil}, // the row of places 1 to 3
		{51, 1, func(c *api.Code) { c.Chans[0].Type = 1 }}, {51, 0, nil},
		{55, 0, func(c *api.Code) { c.Chans[0].Room = 0 }}, {55, 9, nil},
		{67, 1, nil}, {71, 3, func(c *api.Code) { c.Funcs[0].Params = 3 }}, {71, 4, nil}, {75, 2, nil},
		{91, 1, func(c *api.Code) { c.Funcs[1].Start = 1 }}, {91, 4, func(c *api.Code) { c.Funcs[1].Start = 4 }}, {91, 5, nil}, {91, 0, nil},
		{body, 2, nil}, {body, 0, nil}, {body, 27, nil}, // an Int's A is no Float's; no Op
		{body + 1, 0x7f, func(c *api.Code) { c.Body[0].A = 0x7f23456789abcdef }}, {body + 1, 0x80, nil}, {body + 1, 0xff, nil},
		{body + 12, 1, nil}, {body + 13, 1, nil}, {body + 20, 1, nil},
		{body + 23, 0x20, nil}, // At 0x2034
		{body + 24, 0x35, func(c *api.Code) { c.Body[0].At = 0x1235 }},
	} {
		b := mixedBytes(t)
		b[x.at] = x.to
		if x.want == nil {
			refusesBytes(t, fmt.Sprintf("byte %d as %x", x.at, x.to), b)
			continue
		}
		if c, err := code.Get(b); err != nil || !modelSame(c, with(mixed(), x.want)) {
			t.Errorf("byte %d as %x: Get = %v, %v", x.at, x.to, c, err)
		}
	}
}

// TestGreatCounts: counts far greater than the bytes that follow; all are refused at once, with little memory.
func TestGreatCounts(t *testing.T) {
	counts := []string{"ffffffff", "7fffffff", "80000000", "00100000", "00002001", "00002000", "000000ff"}
	for _, count := range counts {
		for _, b := range [][]byte{leastBytes(t), mixedBytes(t), modelBytes(rich())} {
			for at := 0; at < 28; at += 4 {
				refusesBytes(t, "a great count", slices.Concat(b[:at], written(t, count), b[at+4:]))
				refusesBytes(t, "a great count and no more", slices.Concat(b[:at], written(t, count)))
			}
		}
		for _, at := range []int{28 + 5*4 + 2*8 + 8, 28 + 5*4 + 2*8 + 24 + 8, 28 + 5*4 + 2*8 + 24 + 16 + 8} { // how many locals
			b := mixedBytes(t)
			refusesBytes(t, "many locals", slices.Concat(b[:at], written(t, count), b[at+4:]))
		}
		refusesBytes(t, "all counts", bytes.Repeat(written(t, count), 7))
	}
	zeros, all := make([]byte, 4<<20), bytes.Repeat([]byte{0xff}, 4<<20)
	refusesMany(t, zeros)
	refusesMany(t, all)
	for at := 0; at < 24; at += 4 { // as many as the bytes would have room for
		b := slices.Clone(zeros)
		copy(b[at:], written(t, "000fffff"))
		refusesMany(t, b)
	}
}

// refusesMany is refusesBytes of bytes that are too many to be told, and asks that far less memory is taken than they are.
func refusesMany(t *testing.T, b []byte) {
	t.Helper()
	var before, after runtime.MemStats
	runtime.ReadMemStats(&before)
	c, err := code.Get(b)
	runtime.ReadMemStats(&after)
	if !zero(c) || err != api.ErrCode {
		t.Error("Get of many bytes: ", err)
	}
	if taken := after.TotalAlloc - before.TotalAlloc; taken > 2<<20 {
		t.Errorf("Get of %d bytes took %d bytes of memory", len(b), taken)
	}
}
