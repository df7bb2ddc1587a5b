package act

import (
	"slices"

	"stockade/api"
)

// Listed is picks of a list.
func Listed(list []int) func(n int) int {
	own := slices.Clone(list)
	next := 0
	return func(int) int {
		if len(own) == 0 {
			return 0
		}
		pick := own[next]
		next = (next + 1) % len(own)
		return pick
	}
}

// script is a thread that tells waits.
type script struct {
	waits []Wait // those that aren't told yet; the list itself belongs to all threads of its function
}

// Scripted is threads of scripts.
func Scripted(scripts [][]Wait) Begin {
	own := make([][]Wait, len(scripts))
	for i, waits := range scripts {
		for _, w := range waits {
			own[i] = append(own[i], w.clone())
		}
	}
	return func(fn int, args []api.Value) Thread {
		if fn < 0 || fn >= len(own) {
			return nil
		}
		return &script{waits: own[fn]}
	}
}

// Next is the next wait of the script.
func (s *script) Next(in api.Value) (Wait, Halt) {
	if len(s.waits) == 0 {
		return Wait{Kind: api.EvEnd}, Halt{}
	}
	w := s.waits[0]
	s.waits = s.waits[1:]
	if w.Kind == 0 {
		return Wait{}, Halt{Fault: api.FaultFail, N: w.V.N, At: w.At}
	}
	return w.clone(), Halt{}
}
