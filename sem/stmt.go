package sem

import (
	"stockade/act"
	"stockade/api"
	"stockade/value"
)

// block goes through a block's statements.
func (f *frame) block(list []api.Node, behind rest) step {
	if len(list) == 0 {
		return silent(behind)
	}
	return f.stmt(list[0], func(api.Value) step {
		return f.block(list[1:], behind)
	})
}

func (f *frame) stmt(n api.Node, behind rest) step {
	switch n.Kind {
	case api.KSet:
		return f.assign(n, behind)
	case api.KLet:
		return f.let(n, behind)
	case api.KGo:
		return f.start(n, behind)
	case api.KCall:
		return f.call(n, behind)
	case api.KLock:
		return wait(act.Wait{Kind: api.EvLock, Obj: n.Obj, At: n.At}, behind)
	case api.KUnlock:
		return wait(act.Wait{Kind: api.EvUnlock, Obj: n.Obj, At: n.At}, behind)
	case api.KSend:
		return f.give(api.EvSend, n, behind)
	case api.KAdd:
		return f.give(api.EvAdd, n, behind)
	case api.KPut:
		return f.give(api.EvPut, n, behind)
	case api.KRecv:
		return f.take(api.EvRecv, n, behind)
	case api.KGet:
		return f.take(api.EvGet, n, behind)
	case api.KIf:
		return f.branch(n, behind)
	case api.KWhile:
		return f.loop(n, behind)
	case api.KReturn:
		return silent(f.leave)
	}
	return f.fail(n)
}

func (f *frame) assign(n api.Node, behind rest) step {
	return f.index(n.Kids[0], func(index api.Value) step {
		return f.expr(n.Kids[1], func(v api.Value) step {
			return f.set(n.Kids[0], index, v, behind)
		})
	})
}

func (f *frame) let(n api.Node, behind rest) step {
	return f.expr(n.Kids[0], func(v api.Value) step {
		f.values[n.N] = v
		return silent(behind)
	})
}

// start lets a new goroutine begin.
func (f *frame) start(n api.Node, behind rest) step {
	return f.all(n.Kids, nil, func(args []api.Value) step {
		return wait(act.Wait{Kind: api.EvGo, Obj: n.Obj, At: n.At, Args: args}, behind)
	})
}

func (f *frame) call(n api.Node, behind rest) step {
	return f.all(n.Kids, nil, func(args []api.Value) step {
		if f.calls >= api.MaxCalls {
			return halt(api.FaultCalls, 0, n.At)
		}
		called := enter(f.Program, n.Obj, args, f.calls+1, behind)
		return wait(act.Wait{Kind: api.EvTurn, At: n.At}, called.body)
	})
}

// give is an event that is handed a value.
func (f *frame) give(kind int, n api.Node, behind rest) step {
	return f.expr(n.Kids[0], func(v api.Value) step {
		return wait(act.Wait{Kind: kind, Obj: n.Obj, At: n.At, V: v}, behind)
	})
}

// take is an event that gives a value, to which the target is set.
func (f *frame) take(kind int, n api.Node, behind rest) step {
	return f.index(n.Kids[0], func(index api.Value) step {
		return wait(act.Wait{Kind: kind, Obj: n.Obj, At: n.At}, func(v api.Value) step {
			return f.set(n.Kids[0], index, v, behind)
		})
	})
}

func (f *frame) branch(n api.Node, behind rest) step {
	return f.expr(n.Kids[0], func(v api.Value) step {
		if value.True(v) {
			return f.block(n.Kids[1].Kids, behind)
		}
		if len(n.Kids) == 3 {
			return f.block(n.Kids[2].Kids, behind)
		}
		return silent(behind)
	})
}

func (f *frame) loop(n api.Node, behind rest) step {
	return wait(act.Wait{Kind: api.EvTurn, At: n.At}, func(api.Value) step {
		return f.expr(n.Kids[0], func(v api.Value) step {
			if !value.True(v) {
				return silent(behind)
			}
			return f.block(n.Kids[1].Kids, func(api.Value) step {
				return f.loop(n, behind)
			})
		})
	})
}

func (f *frame) fail(n api.Node) step {
	return f.expr(n.Kids[0], func(v api.Value) step {
		return halt(api.FaultFail, v.N, n.At)
	})
}
