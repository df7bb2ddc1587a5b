package sem_test

import (
	"fmt"
	"math/rand"
	"slices"
	"strings"
	"testing"

	"stockade/api"
	"stockade/sem"
	"stockade/token"
)

// The tests of P13.2: programs whose names, blanks and places in the text are changed do the same events, but for At.

// renamed is a text whose names are all changed alike, but main, and whose blanks are others.
func renamed(t *testing.T, r *rand.Rand, src string) string {
	t.Helper()
	names := map[string]string{"main": "main"}
	var out strings.Builder
	out.WriteString(blanks(r))
	last := ""
	for _, tok := range tokens(t, src) {
		text := tok.Text
		if tok.Kind == api.LWord {
			if names[text] == "" {
				names[text] = fmt.Sprintf("%c%d_", "zQ_w"[r.Intn(4)], len(names)*7%1000)
			}
			text = names[text]
		}
		gap := blanks(r)
		if gap == "" && !strings.Contains("(){}[],;", last) && !strings.Contains("(){}[],;", text) {
			gap = " "
		}
		out.WriteString(gap + text)
		last = text
	}
	return out.String() + blanks(r)
}

func blanks(r *rand.Rand) string {
	return []string{"", "", " ", " ", "\t\r", "\n", " // x := 1; fail\n"}[r.Intn(7)]
}

func tokens(t *testing.T, src string) []api.Token {
	t.Helper()
	list, bad := token.Tokens(src)
	if bad.Err != nil {
		t.Fatalf("%q: %v", src, bad)
	}
	return list
}

// counted is the token that stands at a byte; -1, if none does.
func counted(list []api.Token, at int) int {
	return slices.IndexFunc(list, func(tok api.Token) bool { return tok.At == at })
}

// byTokens is what a text does, each byte being told by the number of its token.
func byTokens(t *testing.T, src string, picks []int, fuel int) ([]api.Event, api.End) {
	t.Helper()
	events, end, err := sem.Play(build(t, src), picks, fuel)
	if err != nil {
		t.Fatal(err)
	}
	list := tokens(t, src)
	for i := range events {
		events[i].At = counted(list, events[i].At)
	}
	if end.Outcome == api.Faulted {
		end.At = counted(list, end.At)
	}
	return events, end
}

// nowhere is events and an end without their bytes.
func nowhere(events []api.Event, end api.End) string {
	events = slices.Clone(events)
	for i := range events {
		events[i].At = 0
	}
	end.At = 0
	return fmt.Sprint(events, end)
}

// checkRenamed also asks that events stand at the same tokens in both texts.
func checkRenamed(t *testing.T, src, other string, picks []int, fuel int) {
	t.Helper()
	events, end := byTokens(t, src, picks, fuel)
	got, gotEnd := byTokens(t, other, picks, fuel)
	if g, w := nowhere(got, gotEnd), nowhere(events, end); g != w {
		t.Fatalf("%s\n%s\n got %s\nwant %s", src, other, g, w)
	}
	if g, w := fmt.Sprint(got, gotEnd), fmt.Sprint(events, end); g != w {
		t.Fatalf("%s\n%s\ntokens are %s\nwant %s", src, other, g, w)
	}
}

func TestNames(t *testing.T) {
	const src = "var x int; mutex m; func w(n int) { lock m; x = x / n; unlock m; } func main() { go w(0); v := 1; lock m; x = v; unlock m; }"
	for _, other := range []string{
		"var y int; mutex n; func x(m int) { lock n; y = y / m; unlock n; } func main() { go x(0); w := 1; lock n; y = w; unlock n; }",
		"var\n\nx\tint;mutex m;func w(n int){lock m;x=x/n;unlock m;}func main(){go w(0);v:=1;lock m;x=v;unlock m;}",
		"// var x int\n var _ int; mutex __; func ___(____ int) { lock __; _ = _ / // \n ____; unlock __; } func main() { go ___(0); _a := 1; lock __; _ = _a; unlock __; } //",
	} {
		for _, picks := range [][]int{nil, {1}, {0, 1}, {1, 0, 0}} {
			for fuel := range 20 {
				checkRenamed(t, src, other, picks, fuel)
			}
		}
	}
}

func TestRandomNames(t *testing.T) {
	r := rand.New(rand.NewSource(138))
	played := 0
	for range many(600) {
		src, _ := randomProgram(t, r)
		other := renamed(t, r, src)
		if len(other) > api.MaxText {
			continue
		}
		for range 3 {
			checkRenamed(t, src, other, randomPicks(r), r.Intn(200))
		}
		played++
	}
	if played < many(400) {
		t.Errorf("only %d texts were played", played)
	}
}

// TestNamesOfPrograms: names and bytes of the nodes themselves, as no text could have them. An operator's name stays, since it says what is done.
func TestNamesOfPrograms(t *testing.T) {
	r := rand.New(rand.NewSource(139))
	for range many(600) {
		_, p := randomProgram(t, r)
		q := apart(p)
		for i := range q.Funcs {
			q.Funcs[i].Name = []string{"", "main", "while", "\x00"}[r.Intn(4)]
		}
		for _, n := range nodesOf(q) {
			n.At = r.Int() - r.Int()
			if n.Kind != api.KUnary && n.Kind != api.KBinary {
				n.Name = []string{"", "x", "lock", "+"}[r.Intn(4)]
			}
		}
		for range 3 {
			picks, fuel := randomPicks(r), r.Intn(200)
			events, end, _ := sem.Play(p, picks, fuel)
			got, gotEnd, err := sem.Play(q, picks, fuel)
			if g, w := nowhere(got, gotEnd), nowhere(events, end); g != w || err != nil {
				t.Fatalf("%v\n got %s %v\nwant %s", q, g, err, w)
			}
		}
	}
}
