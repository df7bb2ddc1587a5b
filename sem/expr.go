package sem

import (
	"stockade/act"
	"stockade/api"
	"stockade/value"
)

// expr evaluates an expression, and hands its value on.
func (f *frame) expr(n api.Node, behind rest) step {
	switch n.Kind {
	case api.KInt:
		return behind(value.Int(n.N))
	case api.KFloat:
		return behind(api.Value{Type: api.TFloat, Bits: n.Bits})
	case api.KBool:
		return behind(value.Bool(n.N == 1))
	case api.KLocal:
		return behind(f.values[n.N])
	case api.KPlace, api.KElem:
		return f.index(n, func(index api.Value) step {
			return access(api.EvRead, n, index, api.Value{}, behind)
		})
	case api.KUnary:
		return f.expr(n.Kids[0], func(a api.Value) step {
			v, fault := value.Unary(n.Name, a)
			return made(v, fault, n.At, behind)
		})
	}
	return f.binary(n, behind)
}

func (f *frame) binary(n api.Node, behind rest) step {
	return f.expr(n.Kids[0], func(a api.Value) step {
		if tells(n.Name, a) {
			return behind(a)
		}
		return f.expr(n.Kids[1], func(b api.Value) step {
			v, fault := value.Binary(n.Name, a, b)
			return made(v, fault, n.At, behind)
		})
	})
}

// tells is whether the first kid's value is the operator's result, whatever the second one's is.
func tells(op string, a api.Value) bool {
	return op == "&&" && !value.True(a) || op == "||" && value.True(a)
}

// made hands on what an operator made of values, if it didn't fault.
func made(v api.Value, fault, at int, behind rest) step {
	if fault != 0 {
		return halt(fault, 0, at)
	}
	return behind(v)
}

// all evaluates expressions from the left, and hands their values on behind those that it has got.
func (f *frame) all(list []api.Node, got []api.Value, behind func(values []api.Value) step) step {
	if len(list) == 0 {
		return behind(got)
	}
	return f.expr(list[0], func(v api.Value) step {
		return f.all(list[1:], append(got, v), behind)
	})
}

// index evaluates the kid of a KElem; the value of Type 0 is handed on of others, which have none.
func (f *frame) index(n api.Node, behind rest) step {
	if n.Kind != api.KElem {
		return behind(api.Value{})
	}
	return f.expr(n.Kids[0], behind)
}

// access is the read or write of a KPlace, or of a KElem whose kid has been evaluated.
func access(kind int, n api.Node, index, v api.Value, behind rest) step {
	if n.Kind == api.KElem && (index.N < 0 || index.N >= n.Size) {
		return halt(api.FaultIndex, 0, n.At)
	}
	return wait(act.Wait{Kind: kind, Obj: n.N + index.N, At: n.At, V: v}, behind)
}

// set sets a target, whose kid has been evaluated, if it has one.
func (f *frame) set(n api.Node, index, v api.Value, behind rest) step {
	if n.Kind != api.KLocal {
		return access(api.EvWrite, n, index, v, behind)
	}
	f.values[n.N] = v
	return silent(behind)
}
