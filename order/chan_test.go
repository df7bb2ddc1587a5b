package order_test

import (
	"fmt"
	"math"
	"strings"
	"testing"
)

// The tests of P18.1 on channels, by their rooms.

// roomed are a trace, rooms and clocks.
type roomed struct {
	trace string
	rooms []int
	want  string
}

func checkRooms(t *testing.T, list []roomed) {
	t.Helper()
	for _, x := range list {
		checkClocks(t, x.trace, x.rooms, x.want)
	}
}

// TestSendRecv: the k-th EvSend is ahead of the k-th EvRecv, with any room.
func TestSendRecv(t *testing.T) {
	for _, room := range []int{math.MinInt, -1, 0, 1, 2, 8, 9, math.MaxInt - 1, math.MaxInt} {
		checkRooms(t, []roomed{
			{"0 send 0, 1 recv 0", []int{room}, "1 / 1 1"},
			{"0 send 0, 1 recv 1", []int{room, room}, "1 / 0 1"},
			{"1 recv 0, 0 send 0", []int{room}, "0 1 / 1"},
			{"0 send 0, 0 recv 0", []int{room}, "1 / 2"},
			{"0 turn, 0 send 0, 0 send 1, 1 recv 0, 2 recv 1", []int{room, room}, "1 / 2 / 3 / 2 1 / 3 0 1"},
			{"1 recv 0, 2 recv 0, 0 send 0, 0 end", []int{room}, "0 1 / 0 0 1 / 1 / 2"}, // more EvRecvs than EvSends
		})
	}
	checkRooms(t, []roomed{
		{"0 send 0, 1 send 0, 2 recv 0, 3 recv 0", []int{2}, "1 / 0 1 / 1 0 1 / 0 1 0 1"},                   // the first to the first one
		{"2 recv 0, 0 send 0, 1 send 0, 3 recv 0", []int{2}, "0 0 1 / 1 / 0 1 / 0 1 0 1"},                   // the first EvRecv stands ahead
		{"2 recv 0, 2 recv 0, 0 send 0, 1 send 0, 3 recv 0", []int{5}, "0 0 1 / 0 0 2 / 1 / 0 1 / 0 0 0 1"}, // the third one has no EvSend
		{"0 send 0, 1 send 1, 2 recv 1, 2 recv 0", []int{5, 5}, "1 / 0 1 / 0 1 1 / 1 1 2"},
	})
}

// TestRoomOfOneOrMore: the k-th EvRecv is ahead of the (k + room)-th EvSend.
func TestRoomOfOneOrMore(t *testing.T) {
	checkRooms(t, []roomed{
		{"0 send 0, 1 recv 0, 2 send 0", []int{1}, "1 / 1 1 / 1 1 1"},
		{"0 send 0, 1 recv 0, 2 send 0", []int{2}, "1 / 1 1 / 0 0 1"},
		{"0 send 0, 1 recv 0, 2 send 0, 3 send 0", []int{2}, "1 / 1 1 / 0 0 1 / 1 1 0 1"},
		{"0 send 0, 2 send 0, 1 recv 0, 3 send 0", []int{1}, "1 / 0 0 1 / 1 1 / 0 0 0 1"},                 // the second EvSend stands ahead of the EvRecv
		{"0 send 0, 1 recv 0, 1 recv 0, 2 send 0, 3 send 0", []int{1}, "1 / 1 1 / 1 2 / 1 1 1 / 1 2 0 1"}, // more EvRecvs than EvSends
		{"1 recv 0, 2 send 0, 3 send 0", []int{1}, "0 1 / 0 0 1 / 0 1 0 1"},
		{"0 send 0, 1 recv 0, 0 turn, 0 send 0", []int{1}, "1 / 1 1 / 2 / 3 1"},
		{"0 send 0, 1 recv 0, 0 turn, 0 send 0", []int{2}, "1 / 1 1 / 2 / 3"},
		{"0 send 1, 1 recv 1, 2 send 1, 2 send 0", []int{2, 1}, "1 / 1 1 / 1 1 1 / 1 1 2"},
		{"0 send 0, 1 recv 0, 0 send 0, 1 recv 0, 0 send 0", []int{1}, "1 / 1 1 / 2 1 / 2 2 / 3 2"},
	})
}

// TestEachRoom: with a room, the EvRecv is ahead of the EvSend that is so many behind, and of none before.
func TestEachRoom(t *testing.T) {
	for room := 1; room <= 12; room++ {
		words := []string{"0 send 0", "1 turn", "1 recv 0"}
		want := []string{"1", "0 1", "1 2"}
		for k := 2; k <= room+3; k++ {
			words = append(words, "2 send 0")
			clock := fmt.Sprintf("0 0 %d", k-1)
			if k > room {
				clock = fmt.Sprintf("1 2 %d", k-1)
			}
			want = append(want, clock)
		}
		checkClocks(t, strings.Join(words, ", "), []int{room}, strings.Join(want, " / "))
	}
}

// TestGreatRooms: rooms so great that none of the trace's EvSends is so many behind.
func TestGreatRooms(t *testing.T) {
	for _, room := range []int{3, 4, 8, 1 << 31, math.MaxInt - 2, math.MaxInt - 1, math.MaxInt} {
		checkRooms(t, []roomed{
			{"0 send 0, 1 recv 0, 2 send 0, 3 send 0", []int{room}, "1 / 1 1 / 0 0 1 / 0 0 0 1"},
			{"1 recv 0, 1 recv 0, 1 recv 0, 2 send 0, 3 send 0", []int{room}, "0 1 / 0 2 / 0 3 / 0 0 1 / 0 0 0 1"},
		})
	}
}

// TestRoomOfNone: an EvRecv is ahead of the later events of the goroutine that did its EvSend.
func TestRoomOfNone(t *testing.T) {
	for _, rooms := range [][]int{{0}, {-1}, {math.MinInt}, {}, nil, {0, 5}} {
		checkRooms(t, []roomed{
			{"0 send 0, 1 recv 0, 0 turn", rooms, "1 / 1 1 / 2 1"},
			{"0 send 0, 0 turn, 1 recv 0, 0 turn", rooms, "1 / 2 / 1 1 / 3 1"}, // an event between knows nothing
			{"0 send 0, 1 recv 0, 2 turn, 2 send 0, 3 recv 0, 0 turn", rooms, "1 / 1 1 / 0 0 1 / 0 0 2 / 0 0 2 1 / 2 1"},
			{"1 recv 0, 0 send 0, 0 turn", rooms, "0 1 / 1 / 2"},                                                         // the EvSend is behind
			{"1 recv 0, 0 turn", rooms, "0 1 / 1"},                                                                       // there is none
			{"1 recv 0, 0 send 0, 2 send 0, 3 recv 0, 0 turn, 2 turn", rooms, "0 1 / 1 / 0 0 1 / 0 0 1 1 / 2 / 0 0 2 1"}, // the second one of each
			{"0 send 0, 2 send 0, 1 recv 0, 2 turn, 0 turn", rooms, "1 / 0 0 1 / 1 1 / 0 0 2 / 2 1"},                     // to its own sender alone
			{"0 send 0, 2 send 0, 1 recv 0, 3 recv 0, 0 turn, 2 turn", rooms, "1 / 0 0 1 / 1 1 / 0 0 1 1 / 2 1 / 0 0 2 1"},
			{"0 send 0, 0 recv 0, 0 turn", rooms, "1 / 2 / 3"}, // one goroutine does both
			{"0 send 0, 1 recv 0, 0 send 0, 2 recv 0, 0 end", rooms, "1 / 1 1 / 2 1 / 2 1 1 / 3 1 1"},
			{"0 send 0, 1 recv 0, 2 send 0", rooms, "1 / 1 1 / 0 0 1"}, // the next EvSend isn't its sender's
			{"0 send 0, 1 recv 0, 1 recv 0, 0 turn", rooms, "1 / 1 1 / 1 2 / 2 1"},
			{"0 send 0, 2 unlock, 1 lock, 1 recv 0, 0 turn", rooms, "1 / 0 0 1 / 0 1 1 / 1 2 1 / 2 2 1"}, // with all it knows
		})
	}
}

// TestRoomsOfOthers: a channel whose number isn't among the rooms has room 0.
func TestRoomsOfOthers(t *testing.T) {
	none, one := "1 / 1 1 / 2 1 / 0 0 1", "1 / 1 1 / 2 / 1 1 1"
	for _, x := range []struct {
		obj   string
		rooms []int
		want  string
	}{
		{"0", nil, none}, {"0", []int{1}, one}, {"1", []int{1}, none}, {"1", []int{0, 1}, one}, {"0", []int{0, 1}, none}, {"1", []int{1, 0}, none}, {"2", []int{1, 1}, none}, {"2", []int{0, -7, 1}, one},
		{"-1", []int{1}, none}, {"-1", nil, none}, {"-2", []int{1, 1, 1}, none}, {"least", []int{1}, none}, {"greatest", []int{1}, none}, {"greatest", nil, none}, {"500", []int{1, 1}, none},
	} {
		text := strings.ReplaceAll("0 send X, 1 recv X, 0 turn, 2 send X", "X", x.obj)
		checkClocks(t, text, x.rooms, x.want)
	}
	checkClocks(t, "0 send -1, 1 send least, 2 send greatest, 3 recv greatest, 4 recv least, 5 recv -1, 0 turn, 1 turn", nil,
		"1 / 0 1 / 0 0 1 / 0 0 1 1 / 0 1 0 0 1 / 1 0 0 0 0 1 / 2 0 0 0 0 1 / 0 2 0 0 1")
}

// TestWays: what happens before what by several rules in a row.
func TestWays(t *testing.T) {
	checkRooms(t, []roomed{
		{"0 write 0, 0 go 1, 1 send 0, 2 recv 0, 2 unlock, 3 lock, 3 put, 4 get, 4 end", []int{1}, "1 / 2 / 2 1 / 2 1 1 / 2 1 2 / 2 1 2 1 / 2 1 2 2 / 2 1 2 2 1 / 2 1 2 2 2"},
		{"0 send 0, 1 recv 0, 1 unlock, 2 lock, 0 send 0, 3 recv 0", nil, "1 / 1 1 / 1 2 / 1 2 1 / 2 1 / 2 1 0 1"},
		{"0 go 1, 1 add, 2 add, 2 send 0, 3 recv 0, 3 go 4, 4 unlock, 5 lock, 0 turn, 1 turn", []int{2}, "1 / 1 1 / 1 1 1 / 1 1 2 / 1 1 2 1 / 1 1 2 2 / 1 1 2 2 1 / 1 1 2 2 1 1 / 2 / 1 2"},
		{"3 send 1, 4 send 1, 4 unlock 2, 2 recv 1, 2 recv 1, 5 send 1, 5 put 7, 6 lock 2, 6 get 7", []int{0, 1}, "0 0 0 1 / 0 0 0 0 1 / 0 0 0 0 2 / 0 0 1 1 / 0 0 2 1 1 / 0 0 2 1 1 1 / 0 0 2 1 1 2 / 0 0 0 0 2 0 1 / 0 0 2 1 2 2 2"},
	})
}
