package act

import (
	"slices"

	"stockade/api"
	"stockade/sync"
	"stockade/value"
)

// canRun tells whether there is such a goroutine, and it can do its event.
func (r *Run) canRun(g int) bool {
	if g < 0 || g >= len(r.goroutines) {
		return false
	}
	w := r.goroutines[g].wait
	switch w.Kind {
	case api.EvRead, api.EvWrite:
		return canAccess(r.state, w)
	case api.EvLock:
		return hasMutex(r.state, w.Obj) && !r.state.Locked(w.Obj)
	case api.EvUnlock:
		return hasMutex(r.state, w.Obj)
	case api.EvSend:
		return r.canSend(w)
	case api.EvRecv:
		return r.state.Len(w.Obj) > 0
	case api.EvGet, api.EvPut, api.EvAdd:
		return canCount(r.state, w)
	case api.EvGo, api.EvTurn, api.EvEnd:
		return true
	}
	return false
}

func canAccess(s *sync.State, w Wait) bool {
	old, err := s.Read(w.Obj)
	return err == nil && (w.Kind == api.EvRead || isOf(w.V, old.Type))
}

// hasMutex tells whether there is such a mutex. Unlock is asked only where that changes nothing: of one that isn't locked.
func hasMutex(s *sync.State, i int) bool {
	if s.Locked(i) {
		return true
	}
	_, err := s.Unlock(i)
	return err == nil
}

func (r *Run) canSend(w Wait) bool {
	if w.Obj < 0 || w.Obj >= len(r.chans) || !isOf(w.V, r.chans[w.Obj]) {
		return false
	}
	if r.state.Room(w.Obj) == 0 {
		return r.receiver(w.Obj) >= 0
	}
	return r.state.Len(w.Obj) < r.state.Room(w.Obj)
}

// receiver is the first goroutine that waits to receive of a channel; -1, if there is none.
func (r *Run) receiver(channel int) int {
	return slices.IndexFunc(r.goroutines, func(g *goroutine) bool {
		return g.wait.Kind == api.EvRecv && g.wait.Obj == channel
	})
}

func canCount(s *sync.State, w Wait) bool {
	_, err := s.Get(w.Obj)
	return err == nil && (w.Kind == api.EvGet || isOf(w.V, api.TInt))
}

// isOf tells whether a value is in form and of this type.
func isOf(v api.Value, typ int) bool {
	return value.Good(v) && v.Type == typ
}

// chanTypes is each channel's type. Layer 11 doesn't tell it, but what a channel refuses does; a copy is asked, since it takes what it doesn't refuse.
func chanTypes(s *sync.State) []int {
	c := s.Copy()
	var types []int
	for typ := chanType(c, 0); typ != 0; typ = chanType(c, len(types)) {
		types = append(types, typ)
	}
	return types
}

// chanType is 0, if there is no such channel.
func chanType(s *sync.State, i int) int {
	for typ := api.TInt; typ <= api.TBool; typ++ {
		if _, err := s.Send(i, value.Zero(typ)); err == nil {
			return typ
		}
	}
	return 0
}
