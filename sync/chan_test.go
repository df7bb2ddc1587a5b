package sync_test

import (
	"math/rand"
	"slices"
	"testing"

	"stockade/api"
	"stockade/sync"
	"stockade/value"
)

// The tests of P11.2: what a channel gives is what was sent, in order, each once.

// A line is a channel, and the rows of values that it took and gave.
type line struct {
	s          *sync.State
	i          int
	sent, came []api.Value
}

func (l *line) send(t *testing.T, v api.Value) {
	t.Helper()
	ok, err := l.s.Send(l.i, v)
	if err != nil {
		t.Fatalf("Send(%d, %v): %v", l.i, v, err)
	}
	if held := len(l.sent) - len(l.came); ok != (held < l.s.Room(l.i)) {
		t.Fatalf("Send(%d) = %v with %d values held", l.i, ok, held)
	}
	if ok {
		l.sent = append(l.sent, v)
	}
	l.check(t)
}

func (l *line) recv(t *testing.T) {
	t.Helper()
	v, ok, err := l.s.Recv(l.i)
	if err != nil || ok != (len(l.came) < len(l.sent)) {
		t.Fatalf("Recv(%d) = %v, %v, %v with %d sent and %d received", l.i, v, ok, err, len(l.sent), len(l.came))
	}
	if ok {
		l.came = append(l.came, v)
	}
	l.check(t)
}

// check: what came is the first part of what was sent, and the rest is held.
func (l *line) check(t *testing.T) {
	t.Helper()
	if !slices.Equal(l.came, l.sent[:len(l.came)]) {
		t.Fatalf("channel %d: sent %v, came %v", l.i, l.sent, l.came)
	}
	if got := l.s.Len(l.i); got != len(l.sent)-len(l.came) {
		t.Fatalf("channel %d: Len %d with %d sent and %d received", l.i, got, len(l.sent), len(l.came))
	}
}

// drain takes all that is left: each value that was sent has come.
func (l *line) drain(t *testing.T) {
	t.Helper()
	for range api.MaxRoom + 1 {
		l.recv(t)
	}
	if len(l.came) != len(l.sent) {
		t.Fatalf("channel %d: %d sent, %d received", l.i, len(l.sent), len(l.came))
	}
}

// valueOf is the n-th value of a type: ints and floats are all different, so that each is known again.
func valueOf(typ, n int) api.Value {
	switch typ {
	case api.TInt:
		return value.Int(n)
	case api.TFloat:
		return value.Float(float64(n))
	}
	return value.Bool(n%3 == 0)
}

// TestAllTurns does all rows of sends and receives of a short length, on a channel of each room.
func TestAllTurns(t *testing.T) {
	length := 12
	if testing.Short() {
		length = 8
	}
	for room := range api.MaxRoom + 1 {
		for row := range 1 << length {
			s := shape{chans: []api.Chan{{Type: api.TInt, Room: room}}}.state(t)
			l := line{s: s}
			for turn := range length {
				if row>>turn&1 == 0 {
					l.send(t, value.Int(turn))
				} else {
					l.recv(t)
				}
			}
			l.drain(t)
		}
	}
}

// TestLinesInTurns does sends and receives on several channels of one state in many orders, with calls that are refused and copies that go their own way between them.
func TestLinesInTurns(t *testing.T) {
	for seed := range int64(100) {
		r := rand.New(rand.NewSource(seed))
		h := full()
		s := h.state(t)
		var lines []*line
		for i := range h.chans {
			lines = append(lines, &line{s: s, i: i})
		}
		for turn := range 3000 {
			l := lines[r.Intn(1+int(seed)%len(lines))]
			switch r.Intn(20) {
			case 0:
				if ok, err := s.Send(l.i, api.Value{Type: 1 + h.chans[l.i].Type%3}); ok || err != api.ErrType {
					t.Fatalf("Send of another type = %v, %v", ok, err)
				}
			case 1:
				aside := line{s: s.Copy(), i: l.i, sent: slices.Clone(l.sent), came: slices.Clone(l.came)}
				aside.send(t, valueOf(h.chans[l.i].Type, -turn))
				aside.drain(t)
			case 2, 3, 4, 5, 6, 7, 8, 9, 10, 11:
				l.send(t, valueOf(h.chans[l.i].Type, turn))
			default:
				l.recv(t)
			}
		}
		for _, l := range lines {
			l.drain(t)
		}
	}
}

// TestLongLine: a channel gives in order for long, whether it is kept nearly empty or nearly full.
func TestLongLine(t *testing.T) {
	for room := 1; room <= api.MaxRoom; room++ {
		for held := range room {
			s := shape{chans: []api.Chan{{Type: api.TFloat, Room: room}}}.state(t)
			l := line{s: s}
			for n := range held {
				l.send(t, valueOf(api.TFloat, n))
			}
			for n := range 200 {
				l.send(t, valueOf(api.TFloat, held+n))
				l.recv(t)
			}
			l.drain(t)
		}
	}
}
