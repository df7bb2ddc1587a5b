package vm

import (
	"slices"

	"stockade/api"
	"stockade/value"
)

// A frame is a call of a function.
type frame struct {
	next   int // the place of its next instruction
	locals []api.Value
	stack
}

// enter is the frame of a function's call that begins.
func enter(f api.Entry, args []api.Value) *frame {
	list := slices.Clone(args)
	for _, typ := range f.Locals[f.Params:] {
		list = append(list, value.Zero(typ))
	}
	return &frame{next: f.Start, locals: list}
}

// takes tells whether the arguments are as many as a function's parameters, in form, and of their types.
func takes(f api.Entry, args []api.Value) bool {
	return slices.EqualFunc(args, f.Locals[:f.Params], func(v api.Value, typ int) bool {
		return value.Good(v) && v.Type == typ
	})
}

// A stack is values, the top one last. It never lacks one that is asked for, since the code is right.
type stack []api.Value

func (s *stack) push(v api.Value) {
	*s = append(*s, v)
}

func (s *stack) pop() api.Value {
	top := len(*s) - 1
	v := (*s)[top]
	*s = (*s)[:top]
	return v
}

// take pops so many values; the top one is the last of them.
func (s *stack) take(many int) []api.Value {
	rest := len(*s) - many
	list := slices.Clone((*s)[rest:])
	*s = (*s)[:rest]
	return list
}
