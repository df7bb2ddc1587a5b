package sem_test

import (
	"fmt"
	"regexp"
	"strings"
	"testing"

	"stockade/api"
	"stockade/kind"
	"stockade/sem"
)

// A marked text has marks, as "$a ", that aren't a part of it: each tells the byte behind it by a name.
type marked struct {
	src   string
	names map[int]string // of bytes
}

func unmark(text string) marked {
	m := marked{names: map[int]string{}}
	for {
		at := regexp.MustCompile(`\$\w+ `).FindStringIndex(text)
		if at == nil {
			m.src += text
			return m
		}
		m.src += text[:at[0]]
		m.names[len(m.src)] = text[at[0]+1 : at[1]-1]
		text = text[at[1]:]
	}
}

// at is a byte's name, or its number.
func (m marked) at(byte int) string {
	if name, ok := m.names[byte]; ok {
		return name
	}
	return fmt.Sprint("byte ", byte)
}

var kindNames = []string{"none", "read", "write", "lock", "unlock", "send", "recv", "get", "put", "add", "go", "turn", "end"}

// event tells an event: "1: read 3 a", without "0: ", and without the object of a turn and an end, which is 0.
func (m marked) event(e api.Event) string {
	text := kindNames[e.Kind]
	if e.G != 0 {
		text = fmt.Sprintf("%d: %s", e.G, text)
	}
	if e.Kind < api.EvTurn || e.Obj != 0 {
		text += fmt.Sprintf(" %d", e.Obj)
	}
	return text + " " + m.at(e.At)
}

var faultNames = []string{"none", "FaultZero", "FaultIndex", "FaultConv", "FaultUnlock", "FaultGo", "FaultCalls", "FaultFail"}

func (m marked) end(end api.End) string {
	for i, text := range []string{"Running", "Finished", "Deadlock", "", "FuelOut"} {
		if (end == api.End{Outcome: i}) {
			return text
		}
	}
	if end.Outcome != api.Faulted || end.Fault < 1 || end.Fault > api.FaultFail {
		return fmt.Sprint(end)
	}
	text := faultNames[end.Fault]
	if end.G != 0 {
		text = fmt.Sprintf("%d: %s", end.G, text)
	}
	if end.N != 0 || end.Fault == api.FaultFail {
		text += fmt.Sprintf(" %d", end.N)
	}
	return text + " " + m.at(end.At)
}

func (m marked) tell(events []api.Event, end api.End) string {
	var list []string
	for _, e := range events {
		list = append(list, m.event(e))
	}
	return strings.Join(append(list, m.end(end)), ", ")
}

func build(t *testing.T, src string) api.Program {
	t.Helper()
	p, bad := kind.Build(src)
	if bad.Err != nil {
		t.Fatalf("%q: %v", src, bad)
	}
	return p
}

// A row is a marked text and what it does, by picks, its end being the last word. It is asked of the model, too, so that both are held against what is written here.
type row struct {
	text, does string
	picks      []int
}

func checkRows(t *testing.T, rows []row) {
	t.Helper()
	for _, r := range rows {
		m := unmark(r.text)
		p := build(t, m.src)
		for name, play := range map[string]func(api.Program, []int, int) ([]api.Event, api.End, error){"sem": sem.Play, "model": modelPlay} {
			events, end, err := play(p, r.picks, 200)
			if got := m.tell(events, end); got != r.does || err != nil {
				t.Errorf("%s, picks %v (%s)\n got %s %v\nwant %s", r.text, r.picks, name, got, err, r.does)
			}
		}
		checkFuels(t, p, r.picks, 30)
	}
}
