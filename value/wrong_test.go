package value_test

import (
	"slices"
	"strings"
	"testing"

	"stockade/api"
	"stockade/value"
)

// The tests of P10.1 on wrong inputs: None, and the value of Type 0.

func unaryOps() []string { return []string{"-", "!", "int", "float"} }

func binaryOps() []string {
	return []string{"+", "-", "*", "/", "%", "==", "!=", "<", "<=", ">", ">=", "&&", "||"}
}

// noOps are texts that are no operators at all.
func noOps() []string {
	return []string{"", " ", "\x00", "=", "&", "|", "=<", "=>", "<>", "===", "++", "--", "**", "//", "<<", ">>", "^", "~", "&^", "+ ", " +", "- ", " -", "-\x00", "! ", "!!", "Int", "INT", "int ", "ints", "integer", "float64", "Float", "bool", "not", "and", "or", "mod", ":=", "\xff", "−", "≤", strings.Repeat("+", 10000)}
}

// allOps are both sorts of operators, and what is none.
func allOps() []string { return slices.Concat(unaryOps(), binaryOps(), noOps()) }

// unaryTakes and binaryTakes tell the types of the document's list, written out.
func unaryTakes(op string) []int {
	switch op {
	case "-":
		return []int{api.TInt, api.TFloat}
	case "!":
		return []int{api.TBool}
	case "int":
		return []int{api.TFloat}
	case "float":
		return []int{api.TInt}
	}
	return nil
}

func binaryTakes(op string) []int {
	switch op {
	case "+", "-", "*", "/", "<", "<=", ">", ">=":
		return []int{api.TInt, api.TFloat}
	case "%":
		return []int{api.TInt}
	case "==", "!=":
		return []int{api.TInt, api.TFloat, api.TBool}
	case "&&", "||":
		return []int{api.TBool}
	}
	return nil
}

// TestNotInForm: with a value that isn't in form, at either side or both, no operator is one.
func TestNotInForm(t *testing.T) {
	for _, op := range allOps() {
		for _, bad := range notInForm() {
			wantUnary(t, op, bad, api.Value{}, value.None)
			for _, v := range append(allInForm(), notInForm()...) {
				wantBinary(t, op, bad, v, api.Value{}, value.None)
				wantBinary(t, op, v, bad, api.Value{}, value.None)
			}
		}
	}
}

// TestNotInFormAheadOfFaults: what would be a fault in form is None, too.
func TestNotInFormAheadOfFaults(t *testing.T) {
	for _, op := range []string{"/", "%"} {
		wantBinary(t, op, api.Value{Type: api.TInt, N: 1, Bits: 1}, integer(0), api.Value{}, value.None)
		wantBinary(t, op, integer(1), api.Value{Type: api.TInt, Bits: 1}, api.Value{}, value.None)
		wantBinary(t, op, float(one), integer(0), api.Value{}, value.None)
	}
	wantUnary(t, "int", api.Value{Type: api.TFloat, N: 1, Bits: nan}, api.Value{}, value.None)
	wantUnary(t, "int", api.Value{Type: api.TInt, Bits: nan}, api.Value{}, value.None)
}

func TestUnaryOfOtherTypes(t *testing.T) {
	for _, op := range allOps() {
		for _, v := range allInForm() {
			got, n := value.Unary(op, v)
			if slices.Contains(unaryTakes(op), v.Type) {
				if n == value.None {
					t.Errorf("Unary(%q, %+v): None", op, v)
				}
			} else if n != value.None || got != (api.Value{}) {
				t.Errorf("Unary(%q, %+v) = %+v, %d", op, v, got, n)
			}
		}
	}
}

// some are a few values of each type, the edges at which operators fault among them.
func some() []api.Value {
	return []api.Value{integer(0), integer(1), integer(-1), integer(least), integer(2), float(zero), float(minus0), float(one), float(nan), float(inf), float(1), boolean(0), boolean(1)}
}

func TestBinaryOfOtherTypes(t *testing.T) {
	for _, op := range allOps() {
		for _, a := range some() {
			for _, b := range some() {
				got, n := value.Binary(op, a, b)
				if a.Type == b.Type && slices.Contains(binaryTakes(op), a.Type) {
					if n == value.None {
						t.Errorf("Binary(%q, %+v, %+v): None", op, a, b)
					}
				} else if n != value.None || got != (api.Value{}) {
					t.Errorf("Binary(%q, %+v, %+v) = %+v, %d", op, a, b, got, n)
				}
			}
		}
	}
}

func TestWrongSort(t *testing.T) {
	for _, op := range []string{"!", "int", "float"} {
		for _, v := range some() {
			wantBinary(t, op, v, v, api.Value{}, value.None)
		}
	}
	for _, op := range binaryOps() {
		if op == "-" {
			continue
		}
		for _, v := range some() {
			wantUnary(t, op, v, api.Value{}, value.None)
		}
	}
}

func TestDifferentTypes(t *testing.T) {
	for _, op := range binaryOps() {
		for _, x := range [][2]api.Value{
			{integer(1), boolean(1)}, {integer(0), boolean(0)}, {integer(0), float(zero)}, {integer(1), float(one)}, {boolean(0), float(zero)}, {boolean(1), float(one)},
		} {
			wantBinary(t, op, x[0], x[1], api.Value{}, value.None)
			wantBinary(t, op, x[1], x[0], api.Value{}, value.None)
		}
	}
}
