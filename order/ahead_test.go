package order_test

import (
	"fmt"
	"strings"
	"testing"
)

// The tests of P18.1 on what is directly ahead of what: each rule by itself, by the clocks it makes.

// clocksOf are a trace and its clocks, without rooms.
type clocksOf struct{ trace, want string }

func checkAll(t *testing.T, list []clocksOf) {
	t.Helper()
	for _, x := range list {
		checkClocks(t, x.trace, nil, x.want)
	}
}

func TestOneGoroutine(t *testing.T) {
	checkAll(t, []clocksOf{
		{"0 turn", "1"},
		{"7 turn", "0 0 0 0 0 0 0 1"},
		{"0 turn, 0 end, 0 read 4", "1 / 2 / 3"},
		{"3 turn, 3 turn, 0 turn, 3 end", "0 0 0 1 / 0 0 0 2 / 1 / 0 0 0 3"},
		{"0 end, 1 turn, 0 turn, 1 end, 0 end", "1 / 0 1 / 2 / 0 2 / 3"},
	})
}

// TestNothingBetween: kinds that tie no goroutines, whatever their objects are, and those that do, but not so.
func TestNothingBetween(t *testing.T) {
	for _, pair := range []string{"read read", "read write", "write read", "write write", "turn turn", "end end", "turn end", "lock lock", "lock unlock", "unlock unlock", "send send", "recv recv", "recv send",
		"unlock get", "get lock", "unlock recv", "send lock", "send get", "put recv", "add read", "write get", "unlock read", "write lock", "read recv", "send read", "turn lock", "unlock turn", "end go", "unlock send", "recv lock"} {
		words := strings.Fields(pair)
		for _, obj := range []string{"0", "1", "-1"} {
			if obj == "-1" && words[1] == "go" {
				continue
			}
			for _, rooms := range [][]int{nil, {1, 1}} {
				text := fmt.Sprintf("0 %s %s, 1 %s %s", words[0], obj, words[1], obj)
				checkClocks(t, text, rooms, "1 / 0 1")
			}
		}
	}
}

func TestGo(t *testing.T) {
	checkAll(t, []clocksOf{
		{"0 go 1, 1 turn", "1 / 1 1"},
		{"0 go 1, 2 turn", "1 / 0 0 1"},
		{"0 go 0, 1 turn, 0 turn", "1 / 0 1 / 2"},
		{"0 turn, 0 go 2, 0 turn, 2 turn, 2 end", "1 / 2 / 3 / 2 0 1 / 2 0 2"},
		{"0 go 7, 7 turn", "1 / 1 0 0 0 0 0 0 1"},
		{"7 go 0, 0 turn", "0 0 0 0 0 0 0 1 / 1 0 0 0 0 0 0 1"},
		{"1 turn, 0 go 1", "0 1 / 1"},                                                       // the other one's events are earlier
		{"1 turn, 0 go 1, 0 turn, 1 turn", "0 1 / 1 / 2 / 1 2"},                             // it has done events already
		{"0 go 2, 2 turn, 1 go 2, 2 turn", "1 / 1 0 1 / 0 1 / 1 1 2"},                       // two of one goroutine
		{"0 go 2, 1 go 2, 2 turn", "1 / 0 1 / 1 1 1"},                                       // both ahead of its first event
		{"0 go 1, 0 turn, 0 go 1, 0 turn, 1 turn", "1 / 2 / 3 / 4 / 3 1"},                   // two by one goroutine
		{"0 go 1, 1 go 2, 2 turn", "1 / 1 1 / 1 1 1"},                                       // one behind the other
		{"0 go 1, 0 go 2, 2 turn, 1 turn", "1 / 2 / 2 0 1 / 1 1"},                           // one beside the other
		{"0 go 1, 1 go 0, 0 turn", "1 / 1 1 / 2 1"},                                         // and back
		{"1 go 1, 1 go 1, 0 go 1, 1 go 1", "0 1 / 0 2 / 1 / 1 3"},                           // of itself
		{"0 turn 1, 0 end 1, 0 read 1, 0 lock 1, 1 turn", "1 / 2 / 3 / 4 / 0 1"},            // other kinds with such an object
		{"0 go 1, 1 end, 1 turn, 0 turn, 0 end", "1 / 1 1 / 1 2 / 2 / 3"},                   // an EvEnd ends nothing, an EvTurn ties nothing
		{"0 end, 0 go 1, 1 end, 1 go 0, 0 turn", "1 / 2 / 2 1 / 2 2 / 3 2"},                 // even behind it
		{"0 go 1, 1 turn, 2 go 1, 0 turn, 1 turn", "1 / 1 1 / 0 0 1 / 2 / 1 2 1"},           // the later one too
		{"2 turn, 2 go 1, 1 go 0, 2 turn, 0 turn", "0 0 1 / 0 0 2 / 0 1 2 / 0 0 3 / 1 1 2"}, // a way of several
	})
}

func TestMutex(t *testing.T) {
	checkAll(t, []clocksOf{
		{"0 unlock 3, 1 lock 3", "1 / 1 1"},
		{"0 unlock 3, 1 lock 4", "1 / 0 1"},
		{"0 unlock 3, 1 lock -3", "1 / 0 1"},
		{"0 unlock -1, 1 lock -1", "1 / 1 1"},
		{"0 unlock greatest, 1 lock greatest, 1 lock least, 2 unlock least, 3 lock least, 3 lock greatest", "1 / 1 1 / 1 2 / 0 0 1 / 0 0 1 1 / 1 0 1 2"},
		{"1 lock 3, 0 unlock 3", "0 1 / 1"},
		{"0 lock, 0 turn, 0 unlock, 0 turn, 1 turn, 1 lock", "1 / 2 / 3 / 4 / 0 1 / 3 2"},
		{"0 unlock, 1 lock, 2 lock", "1 / 1 1 / 1 0 1"},                                                                 // all later ones
		{"0 unlock, 1 unlock, 2 lock", "1 / 0 1 / 1 1 1"},                                                               // all earlier ones
		{"0 unlock, 0 unlock, 1 lock, 0 unlock, 1 lock", "1 / 2 / 2 1 / 3 / 3 2"},                                       // the newest of one goroutine
		{"0 lock, 0 unlock, 1 lock, 1 unlock, 2 lock", "1 / 2 / 2 1 / 2 2 / 2 2 1"},                                     // one behind the other
		{"0 unlock 0, 1 unlock 1, 2 lock 1, 2 lock 0, 3 lock 0", "1 / 0 1 / 0 1 1 / 1 1 2 / 1 0 0 1"},                   // each by itself
		{"0 unlock, 1 lock, 1 turn, 1 unlock, 0 lock, 0 turn", "1 / 1 1 / 1 2 / 1 3 / 2 3 / 3 3"},                       // and back
		{"0 lock, 1 lock, 0 unlock, 1 unlock, 0 lock, 1 lock", "1 / 0 1 / 2 / 0 2 / 3 2 / 2 3"},                         // as no run can do it
		{"0 unlock 1, 1 lock 1, 1 unlock 2, 2 lock 2, 2 unlock 3, 3 lock 3", "1 / 1 1 / 1 2 / 1 2 1 / 1 2 2 / 1 2 2 1"}, // a way of several
	})
}

func TestAtomic(t *testing.T) {
	kinds := []string{"get", "put", "add"}
	for _, first := range kinds {
		for _, second := range kinds {
			for _, x := range []struct{ first, second, want string }{{"3", "3", "1 / 1 1"}, {"3", "4", "1 / 0 1"}, {"-1", "-1", "1 / 1 1"}, {"least", "greatest", "1 / 0 1"}, {"greatest", "greatest", "1 / 1 1"}} {
				checkClocks(t, fmt.Sprintf("0 %s %s, 1 %s %s", first, x.first, second, x.second), nil, x.want)
			}
			for _, third := range kinds {
				checkClocks(t, fmt.Sprintf("0 %s, 0 turn, 1 turn, 1 %s, 0 turn, 2 %s, 0 %s", first, second, third, first), nil, "1 / 2 / 0 1 / 1 2 / 3 / 1 2 1 / 4 2 1")
				checkClocks(t, fmt.Sprintf("0 %s 1, 1 %s 2, 2 %s 2, 2 %s 1", first, second, third, first), nil, "1 / 0 1 / 0 1 1 / 1 1 2")
			}
		}
	}
}

// TestOneNumber: a mutex, a channel, an atomic, a place and a goroutine of one number have nothing to do with one another.
func TestOneNumber(t *testing.T) {
	checkAll(t, []clocksOf{
		{"0 unlock 3, 1 put 3, 2 send 3, 4 write 3, 5 go 3, 6 get 3, 7 recv 3, 1 lock 3", "1 / 0 1 / 0 0 1 / 0 0 0 0 1 / 0 0 0 0 0 1 / 0 1 0 0 0 0 1 / 0 0 1 0 0 0 0 1 / 1 2"},
	})
}
