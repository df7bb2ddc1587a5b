package proofread

import "stockade/api"

func must(holds bool) {
	if !holds {
		panic(api.ErrCode)
	}
}

// A stack is the types of what lies on it, that of the top one last.
type stack []int

func (s *stack) push(t int) {
	*s = append(*s, t)
}

func (s *stack) pop() int {
	must(len(*s) > 0)
	top := len(*s) - 1
	t := (*s)[top]
	*s = (*s)[:top]
	return t
}

// take pops types that have to be the top ones, the last one at the top.
func (s *stack) take(types ...int) {
	for i := len(types) - 1; i >= 0; i-- {
		must(s.pop() == types[i])
	}
}

func (s *stack) unary(name string) {
	s.push(unary(name, s.pop()))
}

func (s *stack) binary(name string) {
	second := s.pop()
	s.push(binary(name, s.pop(), second))
}

// unary is the type that a unary operator gives.
func unary(name string, t int) int {
	switch {
	case name == "-" && t != api.TBool:
		return t
	case name == "!" && t == api.TBool:
		return api.TBool
	case name == "int" && t == api.TFloat:
		return api.TInt
	case name == "float" && t == api.TInt:
		return api.TFloat
	}
	panic(api.ErrCode)
}

// binary is the type that a binary operator gives: of those that layer 14 numbers, none takes two different types.
func binary(name string, first, second int) int {
	must(first == second)
	switch name {
	case "==", "!=":
		return api.TBool
	case "<", "<=", ">", ">=":
		must(first != api.TBool)
		return api.TBool
	case "%":
		must(first == api.TInt)
	default:
		must(first != api.TBool)
	}
	return first
}
