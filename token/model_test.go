package token_test

import (
	"math/big"
	"math/rand"
	"regexp"
	"slices"
	"strconv"
	"strings"
	"testing"

	"stockade/api"
	"stockade/token"
)

// The tests of P5.1 and P5.2 on all short texts and on many long ones: each held against a model, and read again.

var (
	blankRow  = regexp.MustCompile(`^(?:[ \t\n\r]|//[^\n]*)*`)
	wordHere  = regexp.MustCompile(`^[A-Za-z_][A-Za-z_0-9]*`)
	intHere   = regexp.MustCompile(`^(?:0|[1-9][0-9]*)`)
	floatHere = regexp.MustCompile(`^#[0-9a-f]{16}`)
	markHere  = regexp.MustCompile(`^(?::=|==|!=|<=|>=|&&|\|\||[-+*/%<>=!(){}\[\],;])`)
	goesOn    = regexp.MustCompile(`^[A-Za-z_0-9]`)
	maxInt    = new(big.Int).SetUint64(1<<63 - 1)
)

// modelNext is the token with which a text begins, by the chapter's words alone; or what is wrong with it, and how far from its beginning.
func modelNext(text string) (api.Token, api.Bad) {
	if w := wordHere.FindString(text); w != "" {
		kind := api.LWord
		if slices.Contains(strings.Fields(keywords), w) {
			kind = api.LKey
		}
		if len(w) > 24 {
			return api.Token{}, api.Bad{Err: api.ErrLarge}
		}
		return api.Token{Kind: kind, Text: w}, api.Bad{}
	}
	if m := markHere.FindString(text); m != "" {
		return api.Token{Kind: api.LMark, Text: m}, api.Bad{}
	}
	next := api.Token{Kind: api.LInt, Text: intHere.FindString(text)}
	if next.Text == "" {
		next = api.Token{Kind: api.LFloat, Text: floatHere.FindString(text)}
		if next.Text == "" {
			return api.Token{}, api.Bad{Err: api.ErrText}
		}
		next.Bits, _ = strconv.ParseUint(next.Text[1:], 16, 64)
	} else {
		n, _ := new(big.Int).SetString(next.Text, 10)
		if n.Cmp(maxInt) > 0 {
			return api.Token{}, api.Bad{Err: api.ErrRange}
		}
		next.N = int(n.Int64())
	}
	if goesOn.MatchString(text[len(next.Text):]) {
		return api.Token{}, api.Bad{Err: api.ErrText, At: len(next.Text)}
	}
	return next, api.Bad{}
}

// model is what the chapter says of a text.
func model(src string) ([]api.Token, api.Bad) {
	var out []api.Token
	bad := api.Bad{}
	for at := 0; bad.Err == nil; {
		at += len(blankRow.FindString(src[at:]))
		if at == len(src) {
			break
		}
		if len(out) == api.MaxTokens {
			bad = api.Bad{Err: api.ErrLarge, At: at}
			break
		}
		next, wrong := modelNext(src[at:])
		if wrong.Err != nil {
			bad = api.Bad{Err: wrong.Err, At: at + wrong.At}
			break
		}
		next.At = at
		out = append(out, next)
		at += len(next.Text)
	}
	if len(src) > api.MaxText && (bad.Err == nil || bad.At > 0) {
		bad = api.Bad{Err: api.ErrLarge}
	}
	if bad.Err != nil {
		return nil, bad
	}
	return out, bad
}

// modelLine counts, byte by byte.
func modelLine(src string, at int) (int, int) {
	line, column := 1, 1
	for i := 0; i < at && i < len(src); i++ {
		if column++; src[i] == 10 {
			line, column = line+1, 1
		}
	}
	return line, column
}

// wantModel holds a text's tokens against the model's, and P5.2 of them.
func wantModel(t *testing.T, src string) {
	t.Helper()
	got, bad := token.Tokens(src)
	want, wantBad := model(src)
	if bad != wantBad || !slices.Equal(got, want) {
		t.Fatalf("Tokens(%q) = %v, %v, want %v, %v", src, got, bad, want, wantBad)
	}
	wantInPlace(t, src, got, bad)
	wantAgain(t, got)
}

// wantInPlace: the tokens stand where they say, in order, with blanks alone in front of each and behind the last.
func wantInPlace(t *testing.T, src string, tokens []api.Token, bad api.Bad) {
	t.Helper()
	if bad.Err != nil {
		if bad.At < 0 || bad.At > len(src) {
			t.Fatalf("Tokens(%q): an error at %d", src, bad.At)
		}
		return
	}
	end := 0
	for _, tok := range append(slices.Clone(tokens), api.Token{At: len(src)}) {
		if tok.At < end || tok.At > len(src) || !strings.HasPrefix(src[tok.At:], tok.Text) {
			t.Fatalf("Tokens(%q): %v doesn't stand there", src, tok)
		}
		if between := src[end:tok.At]; blankRow.FindString(between) != between {
			t.Fatalf("Tokens(%q): %q stands in front of %v", src, between, tok)
		}
		end = tok.At + len(tok.Text)
	}
}

// wantAgain: the tokens' texts with one blank between give the same tokens, each where it stands now.
func wantAgain(t *testing.T, tokens []api.Token) {
	t.Helper()
	var texts []string
	want := slices.Clone(tokens)
	at := 0
	for i, tok := range tokens {
		texts = append(texts, tok.Text)
		want[i].At = at
		at += len(tok.Text) + 1
	}
	for _, blank := range []string{" ", "\t", "\n", "\r"} {
		again := strings.Join(texts, blank)
		if len(again) > api.MaxText {
			return
		}
		if got, bad := token.Tokens(again); bad != (api.Bad{}) || !slices.Equal(got, want) {
			t.Fatalf("Tokens(%q) = %v, %v, want %v", again, got, bad, want)
		}
	}
}

// wantLines asks for every byte's line, and those around the text.
func wantLines(t *testing.T, src string) {
	t.Helper()
	for at := -2; at <= len(src)+2; at++ {
		line, column := token.Line(src, at)
		if wantLine, wantColumn := modelLine(src, at); line != wantLine || column != wantColumn {
			t.Fatalf("Line(%q, %d) = %d, %d, want %d, %d", src, at, line, column, wantLine, wantColumn)
		}
	}
}

// eachRow calls with all rows of pieces, up to a length.
func eachRow(pieces []string, length int, do func(row string)) {
	var deeper func(row string, left int)
	deeper = func(row string, left int) {
		do(row)
		if left == 0 {
			return
		}
		for _, p := range pieces {
			deeper(row+p, left-1)
		}
	}
	deeper("", length)
}

func TestShortTexts(t *testing.T) {
	length := 4
	if testing.Short() {
		length = 3
	}
	pieces := strings.Split("a_f01#/=<!:&|+; \n\r@\x80", "")
	eachRow(pieces, length, func(row string) { wantModel(t, row) })
	eachRow([]string{"\n", "a", "\r", "é"}, 5, func(row string) { wantLines(t, row) })
}

// TestPairs puts all marks, and some of each other kind, at once behind one another.
func TestPairs(t *testing.T) {
	pieces := append(strings.Fields(marks), "a", "if", "f0", "_", "0", "7", "9223372036854775807", "9223372036854775808",
		"#3ff0000000000000", "#3ff000000000000", "//", "//\n", " ", "\n", ":", "&", "|", "#", "é", strings.Repeat("a", 24), strings.Repeat("0", 23))
	length := 3
	if testing.Short() {
		length = 2
	}
	eachRow(pieces, length, func(row string) { wantModel(t, row) })
}

// TestEdgeRows: pieces at the edges that the document names, in any order, where a text comes to its greatest length and number of tokens.
func TestEdgeRows(t *testing.T) {
	row := strings.Repeat(";", api.MaxTokens-2)
	pieces := []string{";", "a", "1", "0", "@", " ", "//", "\n", "#3ff0000000000000"}
	eachRow(pieces, 3, func(behind string) { wantModel(t, row+behind) })
	for _, size := range []int{api.MaxText - 1, api.MaxText, api.MaxText + 1} {
		blanks := strings.Repeat(" ", size)
		eachRow([]string{"a", "1", "0", "@", " ", "#", "//", "\n", "9223372036854775808", strings.Repeat("a", 25)}, 2, func(head string) {
			if len(head) <= size {
				wantModel(t, head+blanks[len(head):])
				wantModel(t, blanks[len(head):]+head)
			}
		})
	}
}

// randomText is made of pieces, most of which are right.
func randomText(r *rand.Rand, wrong, pieces int) string {
	var b strings.Builder
	for range pieces {
		switch r.Intn(8) {
		case 0:
			b.WriteString(strings.Fields(keywords)[r.Intn(23)])
		case 1:
			b.WriteString("abcxyzABC_"[r.Intn(9):])
		case 2, 3:
			b.WriteString(strings.Fields(marks)[r.Intn(24)])
		case 4:
			b.WriteString(strconv.Itoa(r.Int() >> r.Intn(63)))
		case 5:
			b.WriteString("#" + strconv.FormatUint(r.Uint64()|1<<63, 16))
		case 6:
			b.WriteString("// " + strconv.QuoteToASCII(string(rune(r.Intn(300)))) + "\n")
		case 7:
			b.WriteString(strings.Repeat("\n", r.Intn(4)))
		}
		if r.Intn(1000) < wrong {
			b.WriteByte(byte(r.Intn(256)))
		} else if r.Intn(20) > 0 {
			b.WriteByte(" \t\n\r"[r.Intn(4)])
		}
	}
	return b.String()
}

func TestRandomTexts(t *testing.T) {
	r := rand.New(rand.NewSource(5))
	turns := 20000
	if testing.Short() {
		turns = 2000
	}
	for range turns {
		src := randomText(r, r.Intn(3)*r.Intn(60), r.Intn(40))
		wantModel(t, src)
		if len(src) < 100 {
			wantLines(t, src)
		}
	}
	for range turns / 100 { // around the greatest length and number of tokens
		wantModel(t, randomText(r, 0, 1000+r.Intn(2000)))
	}
	for range turns { // of any bytes
		src := make([]byte, r.Intn(12))
		for i := range src {
			src[i] = byte(r.Intn(256))
		}
		wantModel(t, string(src))
	}
}

// TestSameAgain: what a call answers hangs on its text alone.
func TestSameAgain(t *testing.T) {
	texts := []string{"", "x:=1;", "@", "01", strings.Repeat("a", 25), strings.Repeat(";", 2001), strings.Repeat("@", 9000), "if #3ff0000000000000"}
	for _, a := range texts {
		for _, b := range texts {
			first, firstBad := token.Tokens(a)
			token.Tokens(b)
			second, secondBad := token.Tokens(a)
			if firstBad != secondBad || !slices.Equal(first, second) {
				t.Errorf("Tokens(%q) changed behind Tokens(%q)", short(a), short(b))
			}
		}
	}
}
