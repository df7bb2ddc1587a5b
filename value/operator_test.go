package value_test

import (
	"math"
	"testing"

	"stockade/api"
	"stockade/value"
)

// The tests of P10.1 on operators: ordinary values and the edges, each answer written out.

func wantUnary(t *testing.T, op string, a, want api.Value, number int) {
	t.Helper()
	if got, n := value.Unary(op, a); got != want || n != number {
		t.Errorf("Unary(%q, %+v) = %+v, %d, want %+v, %d", op, a, got, n, want, number)
	}
}

func wantBinary(t *testing.T, op string, a, b, want api.Value, number int) {
	t.Helper()
	if got, n := value.Binary(op, a, b); got != want || n != number {
		t.Errorf("Binary(%q, %+v, %+v) = %+v, %d, want %+v, %d", op, a, b, got, n, want, number)
	}
}

func TestExamples(t *testing.T) {
	wantBinary(t, "/", integer(-7), integer(2), integer(-3), 0)
	wantBinary(t, "%", integer(-7), integer(2), integer(-1), 0)
	wantUnary(t, "int", float(two63), api.Value{}, api.FaultConv)
	wantUnary(t, "-", float(zero), float(minus0), 0)
}

func TestMinusOfInt(t *testing.T) {
	for _, x := range []struct{ a, want int }{
		{0, 0}, {1, -1}, {-1, 1}, {7, -7}, {-12, 12},
		{greatest, -greatest}, {-greatest, greatest}, {least, least},
	} {
		wantUnary(t, "-", integer(x.a), integer(x.want), 0)
	}
}

func TestMinusOfFloat(t *testing.T) {
	for _, x := range []struct{ a, want uint64 }{
		{zero, minus0}, {minus0, zero},
		{smallest, minusSm}, {minusSm, smallest},
		{inf, minusInf}, {minusInf, inf},
		{one, one | minus0}, {one | minus0, one},
		{largest, largest | minus0}, {normal | minus0, normal},
	} {
		wantUnary(t, "-", float(x.a), float(x.want), 0)
	}
	for _, bits := range nans() {
		wantUnary(t, "-", float(bits), float(nan), 0)
	}
}

func TestNot(t *testing.T) {
	wantUnary(t, "!", boolean(0), boolean(1), 0)
	wantUnary(t, "!", boolean(1), boolean(0), 0)
}

func TestIntOfFloat(t *testing.T) {
	for _, x := range []struct {
		a    uint64
		want int
	}{
		{zero, 0}, {minus0, 0}, {smallest, 0}, {minusSm, 0}, {normal, 0},
		{math.Float64bits(0.5), 0}, {math.Float64bits(-0.5), 0},
		{one - 1, 0}, {(one - 1) | minus0, 0}, {one, 1}, {one | minus0, -1}, {one + 1, 1},
		{math.Float64bits(1.5), 1}, {math.Float64bits(-1.5), -1},
		{math.Float64bits(2.5), 2}, {math.Float64bits(-2.5), -2},
		{math.Float64bits(7.999999999999999), 7}, {math.Float64bits(-7.999999999999999), -7},
		{math.Float64bits(0x1p53 - 1), 1<<53 - 1}, {math.Float64bits(-0x1p53), -1 << 53}, {math.Float64bits(0x1p62), 1 << 62},
		{two63 - 1, greatest - 1023}, {(two63 - 1) | minus0, -(greatest - 1023)},
		{two63 - 2, greatest - 2047},
		{minus63, least},
	} {
		wantUnary(t, "int", float(x.a), integer(x.want), 0)
	}
	for _, bits := range append(nans(), two63, two63+1, minus63+1, math.Float64bits(0x1p64), math.Float64bits(-0x1p64), math.Float64bits(1e300), math.Float64bits(-1e300), largest, largest|minus0, inf, minusInf) {
		wantUnary(t, "int", float(bits), api.Value{}, api.FaultConv)
	}
}

func TestFloatOfInt(t *testing.T) {
	for _, x := range []struct {
		a    int
		want uint64
	}{
		{0, zero}, {1, one}, {-1, one | minus0}, {3, 0x4008000000000000},
		{1 << 53, 0x4340000000000000},
		{1<<53 + 1, 0x4340000000000000}, // no float64 is: half-way, to the even one
		{1<<53 + 2, 0x4340000000000001},
		{1<<53 + 3, 0x4340000000000002},
		{-(1<<53 + 1), 0xc340000000000000},
		{-(1<<53 + 3), 0xc340000000000002},
		{greatest, two63},
		{greatest - 511, two63}, // half-way between 2^63 - 1024 and 2^63
		{greatest - 512, two63 - 1},
		{greatest - 1023, two63 - 1},
		{least, minus63}, {least + 1, minus63}, {-greatest, minus63},
		{least + 512, minus63}, {least + 513, minus63 - 1},
	} {
		wantUnary(t, "float", integer(x.a), float(x.want), 0)
	}
}

func TestIntsReckoned(t *testing.T) {
	for _, x := range []struct {
		op         string
		a, b, want int
	}{
		{"+", 2, 3, 5}, {"+", -2, 3, 1}, {"+", 0, 0, 0}, {"+", greatest, 1, least}, {"+", least, -1, greatest}, {"+", greatest, greatest, -2}, {"+", least, least, 0}, {"+", least, greatest, -1},
		{"-", 2, 3, -1}, {"-", 0, 5, -5}, {"-", least, 1, greatest}, {"-", greatest, -1, least}, {"-", 0, least, least}, {"-", -1, least, greatest}, {"-", least, least, 0},
		{"*", 6, 7, 42}, {"*", -6, 7, -42}, {"*", -6, -7, 42}, {"*", 0, least, 0}, {"*", least, -1, least}, {"*", -1, least, least}, {"*", greatest, 2, -2}, {"*", greatest, greatest, 1}, {"*", 1 << 32, 1 << 32, 0}, {"*", 3037000500, 3037000500, -9223372036709301616},
		{"/", 7, 2, 3}, {"/", -7, 2, -3}, {"/", 7, -2, -3}, {"/", -7, -2, 3}, {"/", 1, 2, 0}, {"/", -1, 2, 0}, {"/", 0, 5, 0}, {"/", 0, -1, 0},
		{"/", least, -1, least}, {"/", least, 1, least}, {"/", greatest, -1, -greatest}, {"/", least, least, 1}, {"/", greatest, least, 0}, {"/", least, greatest, -1}, {"/", least, 2, -1 << 62},
		{"%", 7, 2, 1}, {"%", -7, 2, -1}, {"%", 7, -2, 1}, {"%", -7, -2, -1}, {"%", 1, 2, 1}, {"%", 6, 3, 0}, {"%", 0, 5, 0},
		{"%", least, -1, 0}, {"%", least, 1, 0}, {"%", greatest, -1, 0}, {"%", least, greatest, -1}, {"%", greatest, least, greatest}, {"%", least, 10, -8}, {"%", least, least, 0},
	} {
		wantBinary(t, x.op, integer(x.a), integer(x.b), integer(x.want), 0)
	}
}

func TestIntsByZero(t *testing.T) {
	for _, n := range edgeInts() {
		wantBinary(t, "/", integer(n), integer(0), api.Value{}, api.FaultZero)
		wantBinary(t, "%", integer(n), integer(0), api.Value{}, api.FaultZero)
	}
}

func TestFloatsReckoned(t *testing.T) {
	const minus1 = one | minus0
	bits := math.Float64bits
	for _, x := range []struct {
		op         string
		a, b, want uint64
	}{
		{"+", one, one, bits(2)}, {"+", bits(0.1), bits(0.2), bits(0.30000000000000004)}, {"+", bits(0x1p53), one, bits(0x1p53)}, {"+", bits(0x1p53), bits(3), bits(0x1p53 + 4)},
		{"+", zero, minus0, zero}, {"+", minus0, minus0, minus0}, {"+", one, minus1, zero}, {"+", smallest, smallest, 2}, {"+", smallest, minusSm, zero}, {"+", normal - 1, smallest, normal},
		{"+", largest, largest, inf}, {"+", largest | minus0, largest | minus0, minusInf}, {"+", largest, one, largest}, {"+", inf, one, inf}, {"+", inf, inf, inf}, {"+", inf, minusInf, nan}, {"+", minusInf, inf, nan},
		{"-", one, one, zero}, {"-", zero, zero, zero}, {"-", minus0, zero, minus0}, {"-", zero, minus0, zero}, {"-", minus0, minus0, zero}, {"-", zero, one, minus1}, {"-", bits(0.3), bits(0.1), bits(0.19999999999999998)},
		{"-", inf, inf, nan}, {"-", minusInf, minusInf, nan}, {"-", inf, minusInf, inf}, {"-", minusInf, inf, minusInf}, {"-", one, inf, minusInf}, {"-", largest | minus0, largest, minusInf}, {"-", normal, smallest, normal - 1},
		{"*", bits(2), bits(3), bits(6)}, {"*", bits(0.1), bits(3), bits(0.30000000000000004)}, {"*", minus0, one, minus0}, {"*", minus0, minus1, zero}, {"*", smallest, bits(0.5), zero}, {"*", minusSm, bits(0.5), minus0}, {"*", smallest, bits(1.5), 2}, {"*", smallest, bits(2), 2}, {"*", 3, bits(0.5), 2}, {"*", 5, bits(0.5), 2},
		{"*", smallest, smallest, zero}, {"*", largest, bits(2), inf}, {"*", largest, bits(-2), minusInf}, {"*", inf, minus1, minusInf}, {"*", minusInf, minusInf, inf}, {"*", zero, inf, nan}, {"*", minus0, inf, nan}, {"*", minusInf, zero, nan},
		{"/", one, bits(2), bits(0.5)}, {"/", one, bits(3), bits(1.0 / 3)}, {"/", bits(-7), bits(2), bits(-3.5)}, {"/", smallest, bits(2), zero}, {"/", minusSm, bits(2), minus0}, {"/", normal, bits(2), normal / 2}, {"/", largest, bits(0.5), inf},
		{"/", one, zero, inf}, {"/", one, minus0, minusInf}, {"/", minus1, zero, minusInf}, {"/", minus1, minus0, inf}, {"/", smallest, zero, inf}, {"/", inf, zero, inf}, {"/", inf, minus0, minusInf}, {"/", zero, zero, nan}, {"/", minus0, zero, nan}, {"/", zero, minus0, nan}, {"/", minus0, minus0, nan},
		{"/", zero, minus1, minus0}, {"/", one, inf, zero}, {"/", one, minusInf, minus0}, {"/", inf, inf, nan}, {"/", inf, minusInf, nan}, {"/", minusInf, inf, nan}, {"/", largest, largest, one},
	} {
		wantBinary(t, x.op, float(x.a), float(x.b), float(x.want), 0)
	}
}

// TestNaNGoesOn: whatever NaN goes in, at either side, the one NaN comes out.
func TestNaNGoesOn(t *testing.T) {
	for _, op := range []string{"+", "-", "*", "/"} {
		for _, n := range nans() {
			for _, f := range edgeFloats() {
				wantBinary(t, op, float(n), float(f), float(nan), 0)
				wantBinary(t, op, float(f), float(n), float(nan), 0)
			}
		}
	}
}

// orders are which comparisons hold of two: the first below, the same as, above the second, or neither.
func orders() (below, same, above, neither map[string]int) {
	below = map[string]int{"==": 0, "!=": 1, "<": 1, "<=": 1, ">": 0, ">=": 0}
	same = map[string]int{"==": 1, "!=": 0, "<": 0, "<=": 1, ">": 0, ">=": 1}
	above = map[string]int{"==": 0, "!=": 1, "<": 0, "<=": 0, ">": 1, ">=": 1}
	neither = map[string]int{"==": 0, "!=": 1, "<": 0, "<=": 0, ">": 0, ">=": 0}
	return below, same, above, neither
}

// wantRising holds each of a rising row against each: those of one group are the same.
func wantRising(t *testing.T, row [][]api.Value) {
	t.Helper()
	below, same, above, _ := orders()
	for i, left := range row {
		for j, right := range row {
			want := same
			if i < j {
				want = below
			} else if i > j {
				want = above
			}
			for _, a := range left {
				for _, b := range right {
					for op, n := range want {
						wantBinary(t, op, a, b, boolean(n), 0)
					}
				}
			}
		}
	}
}

func TestIntsCompared(t *testing.T) {
	var row [][]api.Value
	for _, n := range []int{least, least + 1, -1 << 53, -2, -1, 0, 1, 2, 1 << 31, 1 << 32, 1 << 53, 1<<53 + 1, greatest - 1, greatest} {
		row = append(row, []api.Value{integer(n)})
	}
	wantRising(t, row)
}

func TestFloatsCompared(t *testing.T) {
	var row [][]api.Value
	for _, f := range []uint64{minusInf, largest | minus0, one | minus0, normal | minus0, 2 | minus0, minusSm} {
		row = append(row, []api.Value{float(f)})
	}
	row = append(row, []api.Value{float(zero), float(minus0)})
	for _, f := range []uint64{smallest, 2, normal, one - 1, one, one + 1, two63, largest, inf} {
		row = append(row, []api.Value{float(f)})
	}
	wantRising(t, row)
}

// TestNaNCompared: a NaN at either side, or the same one at both.
func TestNaNCompared(t *testing.T) {
	_, _, _, neither := orders()
	for op, n := range neither {
		for _, a := range nans() {
			for _, f := range edgeFloats() {
				wantBinary(t, op, float(a), float(f), boolean(n), 0)
				wantBinary(t, op, float(f), float(a), boolean(n), 0)
			}
		}
	}
}

func TestBools(t *testing.T) {
	for _, x := range []struct {
		op   string
		want [4]int // of 0 0, 0 1, 1 0, 1 1
	}{
		{"&&", [4]int{0, 0, 0, 1}},
		{"||", [4]int{0, 1, 1, 1}},
		{"==", [4]int{1, 0, 0, 1}},
		{"!=", [4]int{0, 1, 1, 0}},
	} {
		for i, n := range x.want {
			wantBinary(t, x.op, boolean(i/2), boolean(i%2), boolean(n), 0)
		}
	}
}
