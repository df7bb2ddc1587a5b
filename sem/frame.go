package sem

import (
	"slices"

	"stockade/act"
	"stockade/api"
	"stockade/value"
)

// frame is a function of a program that is gone through.
type frame struct {
	api.Program
	api.Func
	values []api.Value // of the locals
	calls  int         // how many are in one another; the goroutine's first function isn't counted
	leave  rest        // what comes behind the function's block
}

func enter(p api.Program, fn int, args []api.Value, calls int, leave rest) *frame {
	f := &frame{Program: p, Func: p.Funcs[fn], calls: calls, leave: leave}
	for _, typ := range f.Locals {
		f.values = append(f.values, value.Zero(typ))
	}
	copy(f.values, args)
	return f
}

// body goes through the function's block.
func (f *frame) body(api.Value) step {
	return f.block(f.Block.Kids, f.leave)
}

// begin is the threads of the functions of a typed program, which is kept.
func begin(p api.Program) act.Begin {
	return func(fn int, args []api.Value) act.Thread {
		if fn < 0 || fn >= len(p.Funcs) || !takes(p.Funcs[fn], args) {
			return nil
		}
		f := enter(p, fn, args, 0, ended(p.Funcs[fn].Block.At))
		return &thread{f.body}
	}
}

// takes tells whether the arguments are as many as a function's parameters, in form, and of their types.
func takes(f api.Func, args []api.Value) bool {
	return slices.EqualFunc(args, f.Locals[:f.Params], func(v api.Value, typ int) bool {
		return value.Good(v) && v.Type == typ
	})
}
