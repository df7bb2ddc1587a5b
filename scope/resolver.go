package scope

import (
	"slices"

	"stockade/api"
)

// What a node's name stands for.
const (
	local = 1 + iota
	variable
	array
	mutex
	atomic
	channel
	function
)

// A thing is what a name stands for, and which one of those: of a variable its place, of an array its first one and how many there are.
type thing struct {
	what, number, size int
}

// A resolver goes through a tree in form, and fills in the program that it is. What is wrong ends the going by a panic with an api.Bad.
type resolver struct {
	api.Program
	names   map[string]thing // all that can be used here; as no name hides another one, locals need no map of their own
	objects int
	locals  []int    // the types of those of the function that is gone through
	usable  []string // the locals among the names, in the order in which they were declared
}

func resolve(n api.Node) (p api.Program, bad api.Bad) {
	defer func() {
		if stop := recover(); stop != nil {
			p, bad = api.Program{}, stop.(api.Bad)
		}
	}()
	r := &resolver{names: map[string]thing{}}
	for _, kid := range n.Kids {
		r.declare(kid)
	}
	r.start()
	for _, kid := range n.Kids {
		if kid.Kind == api.KFunc {
			r.function(kid)
		}
	}
	return r.Program, api.Bad{}
}

func need(holds bool, err error, at int) {
	if !holds {
		panic(api.Bad{Err: err, At: at})
	}
}

// declare gives a declaration its numbers.
func (r *resolver) declare(n api.Node) {
	r.free(n)
	switch n.Kind {
	case api.KVar:
		r.places(n, variable, 1)
	case api.KArray:
		need(1 <= n.N && n.N <= api.MaxElems, api.ErrRange, n.At)
		r.places(n, array, n.N)
	case api.KMutex:
		r.object(n, thing{what: mutex, number: r.Mutexes})
		r.Mutexes++
	case api.KAtomic:
		r.object(n, thing{what: atomic, number: r.Atomics})
		r.Atomics++
	case api.KChan:
		need(n.N <= api.MaxRoom, api.ErrRange, n.At)
		r.object(n, thing{what: channel, number: len(r.Chans)})
		r.Chans = append(r.Chans, api.Chan{Type: n.Type, Room: n.N})
	case api.KFunc:
		r.head(n)
	}
}

// free asks that a node's name can be declared.
func (r *resolver) free(n api.Node) {
	need(r.names[n.Name] == thing{}, api.ErrName, n.At)
}

func (r *resolver) object(n api.Node, t thing) {
	r.objects++
	need(r.objects <= api.MaxObjects, api.ErrLarge, n.At)
	r.names[n.Name] = t
}

// places declares an object that has so many places.
func (r *resolver) places(n api.Node, what, size int) {
	r.object(n, thing{what, len(r.Places), size})
	r.Places = append(r.Places, slices.Repeat([]int{n.Type}, size)...)
	need(len(r.Places) <= api.MaxPlaces, api.ErrLarge, n.At)
}

// head declares a function without going through it, as it may be used ahead of its declaration.
func (r *resolver) head(n api.Node) {
	need(len(r.Funcs) < api.MaxFuncs && n.N <= api.MaxParams, api.ErrLarge, n.At)
	r.names[n.Name] = thing{what: function, number: len(r.Funcs)}
	r.Funcs = append(r.Funcs, api.Func{Name: n.Name, Params: n.N})
}

// start finds the function that begins.
func (r *resolver) start() {
	t := r.names["main"]
	need(t.what == function && r.Funcs[t.number].Params == 0, api.ErrNone, 0)
	r.Main = t.number
}
