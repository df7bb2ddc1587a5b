package detect_test

import (
	"fmt"
	"math"
	"slices"
	"strconv"
	"strings"
	"testing"

	"stockade/api"
	"stockade/pool"
)

// What the tests of this package share: traces written as texts, arenas, races as texts.

// kindNames are the kinds' words, each at its number.
var kindNames = strings.Fields("none read write lock unlock send recv get put add go turn end")

// number is a number, or "least" and "greatest", the ends of int.
func number(text string) int {
	switch text {
	case "least":
		return math.MinInt
	case "greatest":
		return math.MaxInt
	}
	n, err := strconv.Atoi(text)
	if err != nil {
		panic(err)
	}
	return n
}

// firstAt is the At of a trace's first event; those behind have the numbers behind.
const firstAt = 100

// traced is a trace written as "0 go 1, 1 read 4, 0 end": of each event its goroutine, its kind and its object (0, if there is none).
func traced(text string) []api.Event {
	var trace []api.Event
	for i, one := range strings.Split(text, ", ") {
		words := append(strings.Fields(one), "0")
		kind := slices.Index(kindNames, words[1])
		if kind < 1 {
			panic(one)
		}
		trace = append(trace, api.Event{G: number(words[0]), Kind: kind, Obj: number(words[2]), At: firstAt + i})
	}
	return trace
}

// told writes a trace as traced reads it.
func told(trace []api.Event) string {
	var list []string
	for _, e := range trace {
		name := strconv.Itoa(e.Kind)
		if e.Kind >= 0 && e.Kind < len(kindNames) {
			name = kindNames[e.Kind]
		}
		list = append(list, fmt.Sprintf("%d %s %d", e.G, name, e.Obj))
	}
	return strings.Join(list, ", ")
}

// racesText writes races as "4: w101 r102", one behind the other.
func racesText(list []api.Race) string {
	var texts []string
	letter := map[bool]string{true: "w", false: "r"}
	for _, r := range list {
		texts = append(texts, fmt.Sprintf("%d: %s%d %s%d", r.Place, letter[r.FirstW], r.First, letter[r.SecondW], r.Second))
	}
	return strings.Join(texts, ", ")
}

// plenty is more pages than the traces of the tables need.
const plenty = 200

// arenaOf is an arena of so many pages, between two others of its pool.
func arenaOf(t *testing.T, pages int) *pool.Arena {
	t.Helper()
	return arenasOf(t, 1, pages, 1)[1]
}

func arenasOf(t *testing.T, shares ...int) []*pool.Arena {
	t.Helper()
	all := 0
	for _, n := range shares {
		all += n
	}
	p, err := pool.New(all, shares)
	if err != nil {
		t.Fatal(err)
	}
	var list []*pool.Arena
	for i := range shares {
		a, err := p.Arena(i)
		if err != nil {
			t.Fatal(err)
		}
		list = append(list, a)
	}
	return list
}

// runsOf tells an arena's runs: of each address of a page how many words its run has.
func runsOf(a *pool.Arena) []int {
	var list []int
	for i := range a.Share() {
		list = append(list, a.Size(i*api.PageWords))
	}
	return list
}

// wordsOf are an arena's words; -1 stands for those that are in no run.
func wordsOf(a *pool.Arena) []int {
	var list []int
	for at := range a.Share() * api.PageWords {
		v, err := a.Get(at)
		if err != nil {
			v = -1
		}
		list = append(list, v)
	}
	return list
}
