package code

import "stockade/api"

// How many bytes a field has.
const (
	opSize     = 1
	numberSize = 4
	wideSize   = 8
)

// A writer writes a code in form: no number of it is below 0, or too great for its bytes.
type writer struct {
	out []byte
}

// write writes a number in so many bytes, the high one first.
func (w *writer) write(size int, n uint64) {
	for i := size - 1; i >= 0; i-- {
		w.out = append(w.out, byte(n>>(8*i)))
	}
}

func (w *writer) numbers(list ...int) {
	for _, n := range list {
		w.write(numberSize, uint64(n))
	}
}

func (w *writer) code(c api.Code) {
	w.numbers(len(c.Places), c.Mutexes, c.Atomics, len(c.Chans), len(c.Funcs), len(c.Body), c.Main)
	w.numbers(c.Places...)
	for _, ch := range c.Chans {
		w.numbers(ch.Type, ch.Room)
	}
	for _, f := range c.Funcs {
		w.numbers(f.Start, f.Params, len(f.Locals))
		w.numbers(f.Locals...)
	}
	for _, in := range c.Body {
		w.instr(in)
	}
}

func (w *writer) instr(in api.Instr) {
	w.write(opSize, uint64(in.Op))
	w.write(wideSize, uint64(in.A))
	w.write(numberSize, uint64(in.B))
	w.write(wideSize, in.Bits)
	w.write(numberSize, uint64(in.At))
}

// A reader reads what a writer has written. Bytes that end too early, or go on behind, end the reading by a panic.
type reader struct {
	rest []byte
}

func (r *reader) read(size int) uint64 {
	must(len(r.rest) >= size)
	var n uint64
	for _, b := range r.rest[:size] {
		n = n<<8 | uint64(b)
	}
	r.rest = r.rest[size:]
	return n
}

func (r *reader) number() int {
	return int(r.read(numberSize))
}

func (r *reader) code() api.Code {
	var c api.Code
	places := r.number()
	c.Mutexes, c.Atomics = r.number(), r.number()
	chans, funcs, instrs := r.number(), r.number(), r.number()
	c.Main = r.number()
	c.Places = several(places, r.number)
	c.Chans = several(chans, r.channel)
	c.Funcs = several(funcs, r.entry)
	c.Body = several(instrs, r.instr)
	must(len(r.rest) == 0)
	return c
}

func (r *reader) channel() api.Chan {
	return api.Chan{Type: r.number(), Room: r.number()}
}

func (r *reader) entry() api.Entry {
	f := api.Entry{Start: r.number(), Params: r.number()}
	f.Locals = several(r.number(), r.number)
	return f
}

func (r *reader) instr() api.Instr {
	return api.Instr{
		Op:   int(r.read(opSize)),
		A:    int(r.read(wideSize)),
		B:    r.number(),
		Bits: r.read(wideSize),
		At:   r.number(),
	}
}

// several reads a list. No list of a code in form has more than MaxCode elements: more of them aren't read at all, however many the bytes tell of.
func several[T any](many int, one func() T) []T {
	must(many <= api.MaxCode)
	var list []T
	for range many {
		list = append(list, one())
	}
	return list
}
