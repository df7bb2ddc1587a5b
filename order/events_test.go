package order_test

import (
	"fmt"
	"math"
	"slices"
	"strconv"
	"strings"
	"testing"

	"stockade/api"
	"stockade/order"
)

// What the tests of this package share: traces written as texts.

// kindNames are the kinds' words, each at its number.
var kindNames = strings.Fields("none read write lock unlock send recv get put add go turn end")

// number is a number, or "least" and "greatest", the ends of int.
func number(text string) int {
	switch text {
	case "least":
		return math.MinInt
	case "greatest":
		return math.MaxInt
	}
	n, err := strconv.Atoi(text)
	if err != nil {
		panic(err)
	}
	return n
}

// firstAt is the At of a trace's first event; those behind have the numbers behind.
const firstAt = 100

// traced is a trace written as "0 go 1, 1 read 4, 0 end": of each event its goroutine, its kind and its object (0, if there is none).
func traced(text string) []api.Event {
	var trace []api.Event
	for i, one := range strings.Split(text, ", ") {
		words := append(strings.Fields(one), "0")
		kind := slices.Index(kindNames, words[1])
		if kind < 1 {
			panic(one)
		}
		trace = append(trace, api.Event{G: number(words[0]), Kind: kind, Obj: number(words[2]), At: firstAt + i})
	}
	return trace
}

// told writes a trace as traced reads it.
func told(trace []api.Event) string {
	var list []string
	for _, e := range trace {
		list = append(list, fmt.Sprintf("%d %s %d", e.G, kindNames[e.Kind], e.Obj))
	}
	return strings.Join(list, ", ")
}

// clocksText writes clocks as "1 / 0 1 / 2".
func clocksText(clocks [][]int) string {
	var list []string
	for _, c := range clocks {
		list = append(list, strings.Trim(fmt.Sprint(c), "[]"))
	}
	return strings.Join(list, " / ")
}

// racesText writes races as "4: w101 r102", one behind the other.
func racesText(list []api.Race) string {
	var texts []string
	letter := map[bool]string{true: "w", false: "r"}
	for _, r := range list {
		texts = append(texts, fmt.Sprintf("%d: %s%d %s%d", r.Place, letter[r.FirstW], r.First, letter[r.SecondW], r.Second))
	}
	return strings.Join(texts, ", ")
}

// checkClocks asks for the clocks of a trace, and for all else that the model tells of it.
func checkClocks(t *testing.T, text string, rooms []int, want string) {
	t.Helper()
	trace := traced(text)
	checkTrace(t, trace, rooms)
	clocks, err := order.Clocks(trace, rooms)
	if got := clocksText(clocks); got != want || err != nil {
		t.Errorf("%s, rooms %v\n got %s, %v\nwant %s", text, rooms, got, err, want)
	}
}

// checkRaces asks for the races of a trace, and for all else that the model tells of it.
func checkRaces(t *testing.T, text string, rooms []int, want string) {
	t.Helper()
	trace := traced(text)
	checkTrace(t, trace, rooms)
	races, err := order.Races(trace, rooms)
	if got := racesText(races); got != want || err != nil {
		t.Errorf("%s, rooms %v\n got %s, %v\nwant %s", text, rooms, got, err, want)
	}
}
