package value_test

import (
	"math"
	"testing"

	"stockade/api"
	"stockade/value"
)

// The tests of P10.1 on what makes values and asks about them.

const (
	least    = math.MinInt64
	greatest = math.MaxInt64

	nan      = 0x7ff8000000000001 // the NaN that comes of an operation
	inf      = 0x7ff0000000000000
	minusInf = 0xfff0000000000000
	zero     = 0x0000000000000000
	minus0   = 0x8000000000000000
	smallest = 0x0000000000000001
	minusSm  = 0x8000000000000001
	normal   = 0x0010000000000000 // the smallest one that isn't subnormal
	largest  = 0x7fefffffffffffff
	one      = 0x3ff0000000000000
	two63    = 0x43e0000000000000
	minus63  = 0xc3e0000000000000
)

// nans are NaNs of several bits: quiet and signalling ones, of both signs.
func nans() []uint64 {
	return []uint64{nan, 0x7ff8000000000000, 0xfff8000000000000, 0xfff8000000000001, 0x7ff0000000000001, 0xfff0000000000001, 0x7fffffffffffffff, 0xffffffffffffffff, 0x7ff4000000000000, 0x7ff8000000000002}
}

func integer(n int) api.Value     { return api.Value{Type: api.TInt, N: n} }
func float(bits uint64) api.Value { return api.Value{Type: api.TFloat, Bits: bits} }
func boolean(n int) api.Value     { return api.Value{Type: api.TBool, N: n} }

// notInForm are values that aren't in form: of each type with each field that is wrong, and of no type.
func notInForm() []api.Value {
	return []api.Value{
		{Type: api.TInt, Bits: 1},
		{Type: api.TInt, N: 7, Bits: 1},
		{Type: api.TInt, N: 1, Bits: minus0},
		{Type: api.TInt, N: least, Bits: math.MaxUint64},
		{Type: api.TInt, N: -1, Bits: one},
		{Type: api.TFloat, N: 1},
		{Type: api.TFloat, N: 1, Bits: one},
		{Type: api.TFloat, N: -1, Bits: nan},
		{Type: api.TFloat, N: least, Bits: zero},
		{Type: api.TFloat, N: greatest, Bits: inf},
		{Type: api.TBool, N: 2},
		{Type: api.TBool, N: -1},
		{Type: api.TBool, N: 3},
		{Type: api.TBool, N: least},
		{Type: api.TBool, N: greatest},
		{Type: api.TBool, Bits: 1},
		{Type: api.TBool, N: 1, Bits: 1},
		{Type: api.TBool, N: 1, Bits: one},
		{Type: api.TBool, N: 0, Bits: minus0},
		{},
		{N: 1},
		{Bits: 1},
		{Type: 0, N: 1, Bits: one},
		{Type: 4},
		{Type: 4, N: 1},
		{Type: -1},
		{Type: -1, N: 1},
		{Type: -api.TInt, N: 5},
		{Type: 5, Bits: one},
		{Type: api.TInt + 256, N: 5},
		{Type: least},
		{Type: greatest},
	}
}

// inForm are values in form: ordinary ones and all edges, by type.
func inForm() (ints, floats, bools []api.Value) {
	for _, n := range edgeInts() {
		ints = append(ints, integer(n))
	}
	for _, bits := range edgeFloats() {
		floats = append(floats, float(bits))
	}
	return ints, floats, []api.Value{boolean(0), boolean(1)}
}

func allInForm() []api.Value {
	ints, floats, bools := inForm()
	return append(append(ints, floats...), bools...)
}

func edgeInts() []int {
	out := []int{0, 1, -1, 2, -2, 3, -3, 7, -7, 10, -10, 63, 64, 1000003, -999983}
	for _, at := range []int{1 << 31, 1 << 32, 3037000500, 1 << 52, 1 << 53, 1 << 54, 1 << 62, least, greatest, greatest - 512, greatest - 1023} {
		for d := -2; d <= 2; d++ {
			out = append(out, at+d, -at+d)
		}
	}
	return out
}

func edgeFloats() []uint64 {
	out := nans()
	for _, f := range []float64{0.1, 0.5, 1, 1.5, 2, 2.5, 3, 7, 1e10, 1e-10, 1e100, 1e300, 1e-300, 0x1p31, 0x1p32, 0x1p52, 0x1p53, 0x1p62, 0x1p63, 0x1p64, 0x1p-537, 0x1p512, math.Pi, math.MaxFloat64} {
		bits := math.Float64bits(f)
		for _, b := range []uint64{bits - 1, bits, bits + 1} {
			out = append(out, b, b|minus0)
		}
	}
	for _, b := range []uint64{zero, smallest, 2, 3, normal - 1, normal, normal + 1, inf} {
		out = append(out, b, b|minus0)
	}
	return out
}

func TestNone(t *testing.T) {
	if value.None != -1 {
		t.Error(value.None)
	}
}

func TestGood(t *testing.T) {
	for _, v := range allInForm() {
		if !value.Good(v) {
			t.Errorf("Good(%+v) is false", v)
		}
	}
	for _, v := range notInForm() {
		if value.Good(v) {
			t.Errorf("Good(%+v) is true", v)
		}
	}
}

func TestZero(t *testing.T) {
	for _, x := range []struct {
		typ  int
		want api.Value
	}{
		{api.TInt, integer(0)}, {api.TFloat, float(zero)}, {api.TBool, boolean(0)},
		{0, api.Value{}}, {4, api.Value{}}, {-1, api.Value{}}, {-2, api.Value{}}, {-3, api.Value{}}, {257, api.Value{}},
		{least, api.Value{}}, {least + 1, api.Value{}}, {greatest, api.Value{}},
	} {
		got := value.Zero(x.typ)
		if got != x.want {
			t.Errorf("Zero(%d) = %+v, want %+v", x.typ, got, x.want)
		}
		if good := value.Good(got); good != (x.want.Type != 0) {
			t.Errorf("Good(Zero(%d)) = %v", x.typ, good)
		}
	}
}

func TestInt(t *testing.T) {
	for _, n := range edgeInts() {
		if got := value.Int(n); got != integer(n) {
			t.Errorf("Int(%d) = %+v", n, got)
		}
	}
}

// TestFloat: the bits are as they are, those of NaNs too.
func TestFloat(t *testing.T) {
	for _, bits := range edgeFloats() {
		if got := value.Float(math.Float64frombits(bits)); got != float(bits) {
			t.Errorf("Float(%x) = %+v", bits, got)
		}
	}
}

func TestBool(t *testing.T) {
	if got := value.Bool(true); got != boolean(1) {
		t.Errorf("Bool(true) = %+v", got)
	}
	if got := value.Bool(false); got != boolean(0) {
		t.Errorf("Bool(false) = %+v", got)
	}
}

func TestTrue(t *testing.T) {
	for _, v := range append(allInForm(), notInForm()...) {
		want := v.Type == api.TBool && v.N == 1
		if got := value.True(v); got != want {
			t.Errorf("True(%+v) = %v", v, got)
		}
	}
	for _, x := range []struct {
		v    api.Value
		want bool
	}{
		{boolean(1), true}, {boolean(0), false}, {boolean(2), false}, {boolean(-1), false}, {boolean(257), false},
		{integer(1), false}, {float(1), false}, {float(one), false}, {api.Value{N: 1}, false}, {api.Value{Type: 4, N: 1}, false},
	} {
		if got := value.True(x.v); got != x.want {
			t.Errorf("True(%+v) = %v", x.v, got)
		}
	}
}

// TestSame: fields are held against each other as they are, not as floats: a NaN is the same as itself, and the zeroes aren't.
func TestSame(t *testing.T) {
	all := append(allInForm(), notInForm()...)
	for _, a := range all {
		for _, b := range all {
			want := a.Type == b.Type && a.N == b.N && a.Bits == b.Bits
			if got := value.Same(a, b); got != want {
				t.Errorf("Same(%+v, %+v) = %v", a, b, got)
			}
		}
	}
	for _, x := range []struct {
		a, b api.Value
		want bool
	}{
		{float(nan), float(nan), true},
		{float(nan), float(nan + 1), false},
		{float(zero), float(minus0), false},
		{float(zero), integer(0), false},
		{boolean(1), integer(1), false},
		{api.Value{}, api.Value{}, true},
		{api.Value{}, integer(0), false},
		{boolean(2), boolean(2), true},
		{api.Value{Type: 9, N: 8, Bits: 7}, api.Value{Type: 9, N: 8, Bits: 7}, true},
		{api.Value{Type: 9, N: 8, Bits: 7}, api.Value{Type: 8, N: 8, Bits: 7}, false},
		{api.Value{Type: 9, N: 8, Bits: 7}, api.Value{Type: 9, N: 7, Bits: 7}, false},
		{api.Value{Type: 9, N: 8, Bits: 7}, api.Value{Type: 9, N: 8, Bits: 8}, false},
	} {
		if got := value.Same(x.a, x.b); got != x.want {
			t.Errorf("Same(%+v, %+v) = %v", x.a, x.b, got)
		}
	}
}
