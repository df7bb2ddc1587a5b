package value

import (
	"math"

	"stockade/api"
)

const (
	nanBits = 0x7ff8000000000001
	signBit = 1 << 63
)

func ofInt(op string, n int) (api.Value, int) {
	switch op {
	case "-":
		return Int(-n), 0
	case "float":
		return Float(float64(n)), 0
	}
	return api.Value{}, None
}

func ofFloat(op string, f float64) (api.Value, int) {
	switch op {
	case "-":
		return outcome(math.Float64frombits(math.Float64bits(f) ^ signBit)), 0
	case "int":
		return whole(f)
	}
	return api.Value{}, None
}

func ofBool(op string, b bool) (api.Value, int) {
	if op == "!" {
		return Bool(!b), 0
	}
	return api.Value{}, None
}

// whole asks ahead of converting, since what Go makes of a float that is out of range differs from machine to machine. 2^63 - 1 is no float64, so the bound above is 2^63 itself, left out; a NaN is within neither bound.
func whole(f float64) (api.Value, int) {
	if f >= -0x1p63 && f < 0x1p63 {
		return Int(int(f)), 0
	}
	return api.Value{}, api.FaultConv
}

// outcome gives each NaN the same bits, since those that an operation leaves differ from machine to machine.
func outcome(f float64) api.Value {
	if math.IsNaN(f) {
		return Float(math.Float64frombits(nanBits))
	}
	return Float(f)
}
