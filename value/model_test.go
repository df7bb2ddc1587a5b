package value_test

import (
	"math"
	"math/big"
	"math/rand"
	"testing"

	"stockade/api"
	"stockade/value"
)

// The tests of P10.1 by a model: numbers are reckoned exactly, by package big, and then brought into an int or a float. On all pairs of edges, and on random values.

const none = -1

// wrapped is an exact number as Go wraps it.
func wrapped(x *big.Int) api.Value {
	low := new(big.Int).And(x, new(big.Int).SetUint64(math.MaxUint64))
	return integer(int(int64(low.Uint64())))
}

func modelInts(op string, a, b int) (api.Value, int) {
	x, y, r := big.NewInt(int64(a)), big.NewInt(int64(b)), new(big.Int)
	switch op {
	case "+":
		return wrapped(r.Add(x, y)), 0
	case "-":
		return wrapped(r.Sub(x, y)), 0
	case "*":
		return wrapped(r.Mul(x, y)), 0
	case "/", "%":
		if y.Sign() == 0 {
			return api.Value{}, api.FaultZero
		}
		q, m := r.QuoRem(x, y, new(big.Int))
		if op == "%" {
			return wrapped(m), 0
		}
		return wrapped(q), 0
	}
	return modelOrder(op, x.Cmp(y), false)
}

// modelOrder is a comparison's answer, of the sign of the order, or of two of which one is a NaN.
func modelOrder(op string, sign int, apart bool) (api.Value, int) {
	below, same, above, neither := orders()
	row := same
	switch {
	case apart:
		row = neither
	case sign < 0:
		row = below
	case sign > 0:
		row = above
	}
	n, ok := row[op]
	if !ok {
		return api.Value{}, none
	}
	return boolean(n), 0
}

func isNaN(bits uint64) bool { return bits&^minus0 > inf }
func isInf(bits uint64) bool { return bits&^minus0 == inf }
func is0(bits uint64) bool   { return bits&^minus0 == 0 }
func sign(bits uint64) uint64 {
	return bits & minus0
}

// exact is a float's number by its bits; an infinity is a number that is greater than all others.
func exact(bits uint64) *big.Rat {
	exp, frac := int(bits>>52&0x7ff), bits&(1<<52-1)
	if exp > 0 {
		frac, exp = frac|1<<52, exp-1
	}
	n := new(big.Int).SetUint64(frac)
	r := new(big.Rat).SetFrac(n.Lsh(n, uint(exp)), new(big.Int).Lsh(big.NewInt(1), 1074))
	if sign(bits) != 0 {
		r.Neg(r)
	}
	return r
}

// rounded is the nearest float; below the least one a zero of that sign.
func rounded(r *big.Rat, zeroSign uint64) api.Value {
	f, _ := r.Float64()
	bits := math.Float64bits(f) &^ minus0
	if r.Sign() < 0 || r.Sign() == 0 && zeroSign != 0 {
		bits |= minus0
	}
	return float(bits)
}

func modelFloats(op string, a, b uint64) (api.Value, int) {
	apart := isNaN(a) || isNaN(b)
	switch op {
	case "-":
		if apart {
			return float(nan), 0
		}
		return modelAdd(a, b^minus0), 0
	case "+", "*", "/":
		if apart {
			return float(nan), 0
		}
		return map[string]func(a, b uint64) api.Value{"+": modelAdd, "*": modelTimes, "/": modelOver}[op](a, b), 0
	}
	if apart {
		return modelOrder(op, 0, true)
	}
	return modelOrder(op, exact(a).Cmp(exact(b)), false)
}

func modelAdd(a, b uint64) api.Value {
	switch {
	case isInf(a) && isInf(b) && a != b:
		return float(nan)
	case isInf(a):
		return float(a)
	case isInf(b):
		return float(b)
	}
	return rounded(new(big.Rat).Add(exact(a), exact(b)), sign(a)&sign(b))
}

func modelTimes(a, b uint64) api.Value {
	switch {
	case isInf(a) && is0(b) || is0(a) && isInf(b):
		return float(nan)
	case isInf(a) || isInf(b):
		return float(inf | sign(a^b))
	}
	return rounded(new(big.Rat).Mul(exact(a), exact(b)), sign(a^b))
}

func modelOver(a, b uint64) api.Value {
	switch {
	case isInf(a) && isInf(b) || is0(a) && is0(b):
		return float(nan)
	case isInf(a) || is0(b):
		return float(inf | sign(a^b))
	case isInf(b):
		return float(sign(a ^ b))
	}
	return rounded(new(big.Rat).Quo(exact(a), exact(b)), sign(a^b))
}

// modelWhole is a float as an int, by the exact number's quotient towards 0.
func modelWhole(bits uint64) (api.Value, int) {
	if isNaN(bits) || isInf(bits) {
		return api.Value{}, api.FaultConv
	}
	r := exact(bits)
	n := new(big.Int).Quo(r.Num(), r.Denom())
	if !n.IsInt64() {
		return api.Value{}, api.FaultConv
	}
	return integer(int(n.Int64())), 0
}

func checkInts(t *testing.T, a, b int) {
	t.Helper()
	for _, op := range binaryOps() {
		want, n := modelInts(op, a, b)
		wantBinary(t, op, integer(a), integer(b), want, n)
	}
}

func checkInt(t *testing.T, n int) {
	t.Helper()
	wantUnary(t, "-", integer(n), wrapped(new(big.Int).Neg(big.NewInt(int64(n)))), 0)
	wantUnary(t, "float", integer(n), rounded(new(big.Rat).SetInt64(int64(n)), 0), 0)
}

func checkFloats(t *testing.T, a, b uint64) {
	t.Helper()
	for _, op := range binaryOps() {
		want, n := modelFloats(op, a, b)
		wantBinary(t, op, float(a), float(b), want, n)
	}
}

func checkFloat(t *testing.T, bits uint64) {
	t.Helper()
	want, n := modelWhole(bits)
	wantUnary(t, "int", float(bits), want, n)
	turned := float(bits ^ minus0)
	if isNaN(bits) {
		turned = float(nan)
	}
	wantUnary(t, "-", float(bits), turned, 0)
}

func TestEdgeIntsByModel(t *testing.T) {
	for _, a := range edgeInts() {
		checkInt(t, a)
		for _, b := range edgeInts() {
			checkInts(t, a, b)
		}
	}
}

func TestEdgeFloatsByModel(t *testing.T) {
	for _, a := range edgeFloats() {
		checkFloat(t, a)
		for _, b := range edgeFloats() {
			checkFloats(t, a, b)
		}
	}
}

// randomInt is of any number of bits, so that small ones come too.
func randomInt(r *rand.Rand) int {
	return int(int64(r.Uint64())) >> r.Intn(64)
}

// near is a float that is some steps of its last place, or of its exponent, from another one: so that sums are rounded, and few get lost.
func near(r *rand.Rand, bits uint64) uint64 {
	bits += uint64(r.Intn(120)-60) << 52
	return bits ^ r.Uint64()>>(12+r.Intn(52)) ^ sign(r.Uint64())
}

func TestRandomIntsByModel(t *testing.T) {
	r := rand.New(rand.NewSource(10))
	for range 20000 {
		a, b := randomInt(r), randomInt(r)
		checkInt(t, a)
		checkInts(t, a, b)
		checkInts(t, a, a)
	}
}

func TestRandomFloatsByModel(t *testing.T) {
	r := rand.New(rand.NewSource(11))
	for range 4000 {
		a := r.Uint64()
		checkFloats(t, a, r.Uint64())
		checkFloats(t, a, near(r, a))
		small := a >> 12 & (1<<54 - 1) >> r.Intn(54) // at and below the smallest that isn't subnormal
		checkFloats(t, small, near(r, one))
		checkFloat(t, a)
		checkFloat(t, near(r, math.Float64bits(float64(randomInt(r)))))
		checkFloat(t, two63-uint64(r.Intn(64))<<52|r.Uint64()>>12|sign(a))
	}
}

// TestAnswersAreInForm: what comes without a fault can go on into the next operator.
func TestAnswersAreInForm(t *testing.T) {
	for _, op := range allOps() {
		for _, a := range allInForm() {
			if v, n := value.Unary(op, a); value.Good(v) != (n == 0) {
				t.Errorf("Unary(%q, %+v) = %+v, %d", op, a, v, n)
			}
			for _, b := range some() {
				if v, n := value.Binary(op, a, b); value.Good(v) != (n == 0) {
					t.Errorf("Binary(%q, %+v, %+v) = %+v, %d", op, a, b, v, n)
				}
			}
		}
	}
}

// TestAnswersStay: the same answer comes again, whatever was asked in between.
func TestAnswersStay(t *testing.T) {
	r := rand.New(rand.NewSource(12))
	all := append(allInForm(), notInForm()...)
	type asked struct {
		op   string
		a, b api.Value
	}
	type told struct {
		v api.Value
		n int
	}
	first := map[asked]told{}
	for range 50000 {
		q := asked{binaryOps()[r.Intn(13)], all[r.Intn(len(all))], some()[r.Intn(13)]}
		v, n := value.Binary(q.op, q.a, q.b)
		if old, ok := first[q]; ok && old != (told{v, n}) {
			t.Errorf("Binary(%q, %+v, %+v) = %+v, %d, earlier %+v", q.op, q.a, q.b, v, n, old)
		}
		first[q] = told{v, n}
	}
}
