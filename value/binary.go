package value

import "stockade/api"

func ofInts(op string, a, b int) (api.Value, int) {
	switch op {
	case "+":
		return Int(a + b), 0
	case "-":
		return Int(a - b), 0
	case "*":
		return Int(a * b), 0
	case "/", "%":
		return divide(op, a, b)
	}
	return compare(op, a, b)
}

func divide(op string, a, b int) (api.Value, int) {
	if b == 0 {
		return api.Value{}, api.FaultZero
	}
	if op == "/" {
		return Int(a / b), 0
	}
	return Int(a % b), 0
}

func ofFloats(op string, a, b float64) (api.Value, int) {
	switch op {
	case "+":
		return outcome(a + b), 0
	case "-":
		return outcome(a - b), 0
	case "*":
		return outcome(a * b), 0
	case "/":
		return outcome(a / b), 0
	}
	return compare(op, a, b)
}

func ofBools(op string, a, b bool) (api.Value, int) {
	switch op {
	case "&&":
		return Bool(a && b), 0
	case "||":
		return Bool(a || b), 0
	}
	return match(op, a, b)
}

// compare asks each comparison by itself: of a NaN, < isn't the contrary of >=.
func compare[T int | float64](op string, a, b T) (api.Value, int) {
	switch op {
	case "<":
		return Bool(a < b), 0
	case "<=":
		return Bool(a <= b), 0
	case ">":
		return Bool(a > b), 0
	case ">=":
		return Bool(a >= b), 0
	}
	return match(op, a, b)
}

// match stands apart from compare, since bools are comparable, but not ordered.
func match[T comparable](op string, a, b T) (api.Value, int) {
	switch op {
	case "==":
		return Bool(a == b), 0
	case "!=":
		return Bool(a != b), 0
	}
	return api.Value{}, None
}
