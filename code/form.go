package code

import "stockade/api"

// caught does what ends by a panic where a code isn't in form, and makes an error of that.
func caught(do func()) (err error) {
	defer func() {
		if stop := recover(); stop != nil {
			err = stop.(error)
		}
	}()
	do()
	return nil
}

func must(hold bool) {
	if !hold {
		panic(api.ErrCode)
	}
}

// form asks whether a code is in form. Its sizes come first, so that a long list isn't gone through.
func form(c api.Code) {
	sizes(c)
	types(c.Places)
	for _, ch := range c.Chans {
		types([]int{ch.Type})
		must(0 <= ch.Room && ch.Room <= api.MaxRoom)
	}
	functions(c)
	body(c)
}

func sizes(c api.Code) {
	must(len(c.Places) <= api.MaxPlaces)
	must(0 <= c.Mutexes && c.Mutexes <= api.MaxObjects)
	must(0 <= c.Atomics && c.Atomics <= api.MaxObjects) // each by itself first, so that their sum can't wrap round
	must(c.Mutexes+c.Atomics+len(c.Chans) <= api.MaxObjects)
	must(len(c.Funcs) <= api.MaxFuncs)
	must(len(c.Body) <= api.MaxCode)
}

func types(list []int) {
	for _, t := range list {
		must(t == api.TInt || t == api.TFloat || t == api.TBool)
	}
}

func functions(c api.Code) {
	must(oneOf(len(c.Funcs)).has(c.Main))
	must(c.Funcs[c.Main].Params == 0)
	must(c.Funcs[0].Start == 0)
	for i, f := range c.Funcs {
		must(i == 0 || c.Funcs[i-1].Start < f.Start)
		must(f.Start < len(c.Body))
		entry(f)
	}
}

func entry(f api.Entry) {
	must(0 <= f.Params && f.Params <= api.MaxParams)
	must(f.Params <= len(f.Locals) && len(f.Locals) <= api.MaxLocals)
	types(f.Locals)
}

func body(c api.Code) {
	all := shapes(c)
	for _, in := range c.Body {
		s, known := all[in.Op]
		must(known && s.a.has(in.A) && s.b.has(in.B) && in.Bits <= s.bits)
		must(0 <= in.At && in.At <= api.MaxText)
		if in.Op == opReadElem || in.Op == opWriteElem {
			row(c.Places, in.A, in.B)
		}
	}
}

// row asks whether the elements of an array are places, of one type.
func row(places []int, first, many int) {
	must(first+many <= len(places))
	for _, t := range places[first : first+many] {
		must(t == places[first])
	}
}
