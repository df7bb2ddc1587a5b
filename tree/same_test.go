package tree_test

import (
	"reflect"
	"testing"

	"stockade/api"
	"stockade/tree"
)

// The tests of Same, Count and Depth.

func wantSame(t *testing.T, a, b api.Node, want bool) {
	t.Helper()
	if tree.Same(a, b) != want || tree.Same(b, a) != want {
		t.Errorf("Same(%v, %v) isn't %v both ways", a, b, want)
	}
}

// changes are trees that are each another one than the tree, by one field.
func changes(n api.Node) []api.Node {
	out := []api.Node{}
	for _, change := range []func(*api.Node){
		func(n *api.Node) { n.Kind++ },
		func(n *api.Node) { n.Name += "x" },
		func(n *api.Node) { n.Type++ },
		func(n *api.Node) { n.N++ },
		func(n *api.Node) { n.Size++ },
		func(n *api.Node) { n.Obj++ },
		func(n *api.Node) { n.Bits++ },
		func(n *api.Node) { n.Kids = append(n.Kids[:len(n.Kids):len(n.Kids)], api.Node{}) },
	} {
		other := n
		change(&other)
		out = append(out, other)
	}
	return out
}

func TestSameFields(t *testing.T) {
	full := api.Node{Kind: 1, At: 2, Name: "n", Type: 3, N: 4, Size: 5, Obj: 6, Bits: 7}
	for _, n := range []api.Node{{}, full, {Kind: -1, N: -1}} {
		moved := n
		moved.At += 9
		wantSame(t, n, n, true)
		wantSame(t, n, moved, true)
		for _, other := range changes(n) {
			wantSame(t, n, other, false)
		}
		// the same as kids, and as kids of kids
		deep := api.Node{Kids: []api.Node{{}, {Kids: []api.Node{n}}}}
		wantSame(t, deep, api.Node{At: 1, Kids: []api.Node{{At: 2}, {At: 3, Kids: []api.Node{moved}}}}, true)
		for _, other := range changes(n) {
			wantSame(t, deep, api.Node{Kids: []api.Node{{}, {Kids: []api.Node{other}}}}, false)
			wantSame(t, api.Node{Kids: []api.Node{n, n}}, api.Node{Kids: []api.Node{n, other}}, false)
		}
	}
}

func TestSameKids(t *testing.T) {
	a, b := api.Node{Kind: 1}, api.Node{Kind: 2}
	wantSame(t, api.Node{}, api.Node{Kids: []api.Node{}}, true)
	wantSame(t, api.Node{Kids: []api.Node{{}}}, api.Node{Kids: []api.Node{{Kids: []api.Node{}}}}, true)
	wantSame(t, api.Node{Kids: []api.Node{a, b}}, api.Node{Kids: []api.Node{b, a}}, false)
	wantSame(t, api.Node{Kids: []api.Node{a, b}}, api.Node{Kids: []api.Node{a, b}}, true)
	wantSame(t, api.Node{Kids: []api.Node{a, b}}, api.Node{Kids: []api.Node{a}}, false)
	wantSame(t, api.Node{Kids: []api.Node{a, b}}, api.Node{}, false)
	wantSame(t, api.Node{Kids: []api.Node{a}}, a, false)
}

func TestSameTexts(t *testing.T) {
	for _, pair := range [][2]string{{"1+2*3", " 1 + (2*3) // x"}, {"(a[x])", "a [ x ]"}, {"a-b-c", "(a-b)-c"}, {"-(-(1))", "- -1"}} {
		a, _ := tree.Expr(pair[0])
		b, _ := tree.Expr(pair[1])
		wantSame(t, a, b, true)
	}
	for _, pair := range [][2]string{{"1+2*3", "(1+2)*3"}, {"a-b-c", "a-(b-c)"}, {"1", "true"}, {"#0000000000000000", "#8000000000000000"}, {"x", "X"}, {"a<b", "a<=b"}, {"-x", "!x"}} {
		a, _ := tree.Expr(pair[0])
		b, _ := tree.Expr(pair[1])
		wantSame(t, a, b, false)
	}
}

func wantSize(t *testing.T, n api.Node, count, depth int) {
	t.Helper()
	if c, d := tree.Count(n), tree.Depth(n); c != count || d != depth {
		t.Errorf("%d nodes, %d in one another, want %d and %d", c, d, count, depth)
	}
}

func TestCountDepth(t *testing.T) {
	leaf := api.Node{Kind: 99}
	wantSize(t, api.Node{}, 1, 1)
	wantSize(t, api.Node{Kids: []api.Node{}}, 1, 1)
	wantSize(t, api.Node{Kids: []api.Node{leaf}}, 2, 2)
	wantSize(t, api.Node{Kids: []api.Node{leaf, leaf, leaf}}, 4, 2)
	deep := api.Node{Kids: []api.Node{{Kids: []api.Node{leaf}}}}
	wantSize(t, deep, 3, 3)
	wantSize(t, api.Node{Kids: []api.Node{leaf, deep, leaf}}, 6, 4)
	wantSize(t, api.Node{Kids: []api.Node{deep, leaf, deep}}, 8, 4)
	p, _ := tree.Parse("var x int; func f(a int) { x = a + 1; } ")
	wantSize(t, p, 10, 6)
}

// TestGreatTrees: trees as great as the rules ask for.
func TestGreatTrees(t *testing.T) {
	tower := api.Node{Kind: api.KInt}
	for range 999 {
		tower = api.Node{Kind: api.KUnary, Name: "-", Kids: []api.Node{tower}}
	}
	wantSize(t, tower, 1000, 1000)
	wantSame(t, tower, tower.Kids[0], false)
	broad := api.Node{Kids: make([]api.Node, 9999)}
	wantSize(t, broad, 10000, 2)
	wantSame(t, broad, api.Node{Kids: make([]api.Node, 9999)}, true)
	wantSame(t, broad, api.Node{Kids: make([]api.Node, 9998)}, false)
	var both api.Node
	for range 9 {
		both.Kids = append(both.Kids, tower)
	}
	wantSize(t, both, 9001, 1001)
	wantSame(t, both, both, true)
}

// TestNothingChanged: what is handed in stays, and an answer is nobody else's.
func TestNothingChanged(t *testing.T) {
	src := "func f(a int) { if a == 1 { f(a, 2); } }"
	first, _ := tree.Parse(src)
	again, _ := tree.Parse(src)
	spoil(&first)
	fresh, _ := tree.Parse(src)
	if !reflect.DeepEqual(again, fresh) {
		t.Error("an answer changed with another one")
	}
	row := make([]api.Node, 3)
	row[2].Kind = 7
	n := api.Node{Kids: row[:2]}
	tree.Count(n)
	tree.Depth(n)
	tree.Same(n, n)
	if !reflect.DeepEqual(row, []api.Node{{}, {}, {Kind: 7}}) {
		t.Error("what was handed in changed")
	}
}

func spoil(n *api.Node) {
	n.Kind, n.At, n.Name = -1, -1, "spoilt"
	for i := range n.Kids {
		spoil(&n.Kids[i])
	}
}
