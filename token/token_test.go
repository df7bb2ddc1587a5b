package token_test

import (
	"fmt"
	"math"
	"slices"
	"strings"
	"testing"
	"unsafe"

	"stockade/api"
	"stockade/token"
)

// The tests of P5.1 by tables: ordinary texts, edges, and wrong ones.

const keywords = "add atomic bool chan else fail false float func get go if int lock mutex put recv return send true unlock var while"

const marks = ":= == != <= >= && || + - * / % < > = ! ( ) { } [ ] , ;"

func wantTokens(t *testing.T, src string, want []api.Token) {
	t.Helper()
	got, bad := token.Tokens(src)
	if bad != (api.Bad{}) || !slices.Equal(got, want) {
		t.Errorf("Tokens(%q) = %v, %v, want %v", short(src), got, bad, want)
	}
}

func wantBad(t *testing.T, src string, err error, at int) {
	t.Helper()
	got, bad := token.Tokens(src)
	if len(got) != 0 || bad != (api.Bad{Err: err, At: at}) {
		t.Errorf("Tokens(%q) = %d tokens, %v, want %v at %d", short(src), len(got), bad, err, at)
	}
}

// wantCount asks for a text that is right, of which the number of tokens alone matters.
func wantCount(t *testing.T, src string, count int) {
	t.Helper()
	if got, bad := token.Tokens(src); len(got) != count || bad != (api.Bad{}) {
		t.Errorf("Tokens(%q) = %d tokens, %v, want %d", short(src), len(got), bad, count)
	}
}

func short(src string) string {
	if len(src) > 60 {
		return fmt.Sprintf("%s .. (%d bytes) .. %s", src[:30], len(src), src[len(src)-20:])
	}
	return src
}

func one(kind int, text string) []api.Token {
	return []api.Token{{Kind: kind, Text: text}}
}

func TestOrdinary(t *testing.T) {
	wantTokens(t, "x:=1;", []api.Token{
		{Kind: api.LWord, Text: "x"},
		{Kind: api.LMark, Text: ":=", At: 1},
		{Kind: api.LInt, Text: "1", N: 1, At: 3},
		{Kind: api.LMark, Text: ";", At: 4},
	})
	wantTokens(t, "#3ff0000000000000", []api.Token{{Kind: api.LFloat, Text: "#3ff0000000000000", Bits: math.Float64bits(1)}})
	wantTokens(t, "chan c[8] int; // eight\nfunc main() { send c, x_1%20; }", []api.Token{
		{Kind: api.LKey, Text: "chan"},
		{Kind: api.LWord, Text: "c", At: 5},
		{Kind: api.LMark, Text: "[", At: 6},
		{Kind: api.LInt, Text: "8", N: 8, At: 7},
		{Kind: api.LMark, Text: "]", At: 8},
		{Kind: api.LKey, Text: "int", At: 10},
		{Kind: api.LMark, Text: ";", At: 13},
		{Kind: api.LKey, Text: "func", At: 24},
		{Kind: api.LWord, Text: "main", At: 29},
		{Kind: api.LMark, Text: "(", At: 33},
		{Kind: api.LMark, Text: ")", At: 34},
		{Kind: api.LMark, Text: "{", At: 36},
		{Kind: api.LKey, Text: "send", At: 38},
		{Kind: api.LWord, Text: "c", At: 43},
		{Kind: api.LMark, Text: ",", At: 44},
		{Kind: api.LWord, Text: "x_1", At: 46},
		{Kind: api.LMark, Text: "%", At: 49},
		{Kind: api.LInt, Text: "20", N: 20, At: 50},
		{Kind: api.LMark, Text: ";", At: 52},
		{Kind: api.LMark, Text: "}", At: 54},
	})
}

func TestBlanks(t *testing.T) {
	for _, src := range []string{
		"", " ", "\t", "\n", "\r", " \t\r\n\n", "//", "///", "////", "// note", "// note\n", "//\n//\n", "\n//a\r//b\n \t//",
		"// @ # 01 1a \x00\x80\xff\n", "//" + strings.Repeat("a", 100),
	} {
		wantTokens(t, src, nil)
		wantTokens(t, src+"\nx", []api.Token{{Kind: api.LWord, Text: "x", At: len(src) + 1}})
	}
	wantTokens(t, "a//b", one(api.LWord, "a"))
	wantTokens(t, "1//b", []api.Token{{Kind: api.LInt, Text: "1", N: 1}})
	wantTokens(t, "// a\rb\x00\nc", []api.Token{{Kind: api.LWord, Text: "c", At: 8}})
	wantTokens(t, "a/ /b", []api.Token{
		{Kind: api.LWord, Text: "a"},
		{Kind: api.LMark, Text: "/", At: 1},
		{Kind: api.LMark, Text: "/", At: 3},
		{Kind: api.LWord, Text: "b", At: 4},
	})
	wantBad(t, "//\n@", api.ErrText, 3)
	wantBad(t, "a //\n\n  @ //", api.ErrText, 8)
}

// TestCommentBytes: in a comment every byte but 10 goes on, and means nothing.
func TestCommentBytes(t *testing.T) {
	for c := range 256 {
		if c == '\n' {
			continue
		}
		wantTokens(t, "//"+string([]byte{byte(c)}), nil)
		wantTokens(t, "//"+string([]byte{byte(c)})+"@\n;", []api.Token{{Kind: api.LMark, Text: ";", At: 5}})
	}
}

func TestKeywords(t *testing.T) {
	list := strings.Fields(keywords)
	if len(list) != 23 {
		t.Fatal(len(list))
	}
	for _, k := range list {
		wantTokens(t, k, one(api.LKey, k))
		if !token.Key(k) {
			t.Errorf("Key(%q) is false", k)
		}
		for _, w := range []string{k + "s", "_" + k, k + "_", k + "0", strings.ToUpper(k), strings.ToUpper(k[:1]) + k[1:], k + "x" + k} {
			wantTokens(t, w, one(api.LWord, w))
			if token.Key(w) {
				t.Errorf("Key(%q) is true", w)
			}
		}
		if cut := k[:len(k)-1]; !slices.Contains(list, cut) {
			wantTokens(t, cut, one(api.LWord, cut))
		}
	}
	for _, w := range []string{"", " ", "if ", " if", "if else", ":=", "1", "main", "mut", "for", "string", "break", strings.Repeat("if", 5000)} {
		if token.Key(w) {
			t.Errorf("Key(%q) is true", short(w))
		}
	}
}

func TestWords(t *testing.T) {
	all := "abcdefghijklmnopqrstuvwxyzABCDEFGHIJKLMNOPQRSTUVWXYZ_"
	for _, c := range all {
		wantTokens(t, string(c), one(api.LWord, string(c)))
		wantTokens(t, "z"+string(c), one(api.LWord, "z"+string(c)))
	}
	for _, c := range "0123456789" {
		wantTokens(t, "z"+string(c), one(api.LWord, "z"+string(c)))
		wantTokens(t, "_"+string(c)+"z", one(api.LWord, "_"+string(c)+"z"))
	}
	for _, w := range []string{strings.Repeat("a", 23), strings.Repeat("a", 24), strings.Repeat("_", 24), "a" + strings.Repeat("9", 23)} {
		wantTokens(t, w, one(api.LWord, w))
	}
	for _, w := range []string{strings.Repeat("a", 25), strings.Repeat("_", 25), "a" + strings.Repeat("9", 24), strings.Repeat("while", 5), strings.Repeat("a", 8000)} {
		wantBad(t, w, api.ErrLarge, 0)
		wantBad(t, "x = "+w+" @", api.ErrLarge, 4)
		wantBad(t, "+"+w, api.ErrLarge, 1)
	}
	wantBad(t, strings.Repeat("a", 24)+"\x80", api.ErrText, 24)
}

func TestInts(t *testing.T) {
	for text, n := range map[string]int{
		"0": 0, "1": 1, "9": 9, "10": 10, "100": 100, "1234567890": 1234567890,
		"999999999999999999": 999999999999999999, "9223372036854775806": math.MaxInt - 1, "9223372036854775807": math.MaxInt,
	} {
		wantTokens(t, text, []api.Token{{Kind: api.LInt, Text: text, N: n}})
		wantTokens(t, "-"+text, []api.Token{{Kind: api.LMark, Text: "-"}, {Kind: api.LInt, Text: text, N: n, At: 1}})
		for _, c := range "abcdefghijklmnopqrstuvwxyzABCDEFGHIJKLMNOPQRSTUVWXYZ_" {
			wantBad(t, text+string(c), api.ErrText, len(text))
			wantBad(t, text+string(c)+" @", api.ErrText, len(text))
		}
	}
	for _, text := range []string{
		"9223372036854775808", "9223372036854775809", "9223372036854775810", "10000000000000000000", "18446744073709551615",
		"18446744073709551616", "18446744073709551617", "92233720368547758070", strings.Repeat("1", 8000),
	} {
		wantBad(t, text, api.ErrRange, 0)
		wantBad(t, "x = "+text+";", api.ErrRange, 4)
		wantBad(t, text+"a", api.ErrRange, 0) // the number's beginning is farther left
	}
	for c := '0'; c <= '9'; c++ {
		wantBad(t, "0"+string(c), api.ErrText, 1)
		wantBad(t, "x 0"+string(c)+"a", api.ErrText, 3)
	}
	wantBad(t, "01", api.ErrText, 1)
	wantBad(t, "000", api.ErrText, 1)
	wantBad(t, "0x1f", api.ErrText, 1)
	wantBad(t, "1e5", api.ErrText, 1)
	wantBad(t, "1.5", api.ErrText, 1)
	wantBad(t, "1_000", api.ErrText, 1)
	wantBad(t, "0"+strings.Repeat("9", 30), api.ErrText, 1)
	wantTokens(t, "0 1", []api.Token{{Kind: api.LInt, Text: "0"}, {Kind: api.LInt, Text: "1", N: 1, At: 2}})
	wantTokens(t, "0+0", []api.Token{{Kind: api.LInt, Text: "0"}, {Kind: api.LMark, Text: "+", At: 1}, {Kind: api.LInt, Text: "0", At: 2}})
}

func TestFloats(t *testing.T) {
	for text, bits := range map[string]uint64{
		"#0000000000000000": 0, "#ffffffffffffffff": math.MaxUint64, "#8000000000000000": 1 << 63, "#7ff0000000000001": 0x7ff0000000000001,
		"#0123456789abcdef": 0x0123456789abcdef, "#fedcba9876543210": 0xfedcba9876543210, "#4000000000000000": math.Float64bits(2),
		"#0000000000000001": 1, "#9999999999999999": 0x9999999999999999,
	} {
		float := api.Token{Kind: api.LFloat, Text: text, Bits: bits}
		wantTokens(t, text, []api.Token{float})
		for c := range 256 {
			behind := text + string([]byte{byte(c)})
			switch {
			case strings.IndexByte("0123456789abcdefghijklmnopqrstuvwxyzABCDEFGHIJKLMNOPQRSTUVWXYZ_", byte(c)) >= 0:
				wantBad(t, behind, api.ErrText, 17)
			case c == '#':
				wantBad(t, behind, api.ErrText, 17) // the second one, that has no digits
			}
		}
		wantTokens(t, text+";"+text, []api.Token{float, {Kind: api.LMark, Text: ";", At: 17}, {Kind: api.LFloat, Text: text, Bits: bits, At: 18}})
		wantTokens(t, text+text, []api.Token{float, {Kind: api.LFloat, Text: text, Bits: bits, At: 17}})
		for n := range 17 {
			wantBad(t, text[:n]+"#", api.ErrText, 0)
			if n > 0 {
				wantBad(t, text[:n], api.ErrText, 0)
				wantBad(t, "x "+text[:n]+" "+text[n:], api.ErrText, 2)
			}
		}
		for n := 1; n < 17; n++ {
			for _, c := range "gGAF_ ;\x80" {
				wantBad(t, "- "+text[:n]+string(c)+text[n+1:], api.ErrText, 2)
			}
		}
	}
	wantBad(t, "#", api.ErrText, 0)
	wantBad(t, "##3ff0000000000000", api.ErrText, 0)
	wantBad(t, "# 3ff0000000000000", api.ErrText, 0)
	wantBad(t, "#3FF0000000000000", api.ErrText, 0)
	wantBad(t, "#3ff000000000000", api.ErrText, 0)    // 15 digits
	wantBad(t, "#3ff00000000000000", api.ErrText, 17) // 17 digits
	wantBad(t, "#3ff00000000000000@", api.ErrText, 17)
	wantBad(t, "#3ff000000000000g", api.ErrText, 0)
	wantTokens(t, "a1#3ff0000000000000", []api.Token{{Kind: api.LWord, Text: "a1"}, {Kind: api.LFloat, Text: "#3ff0000000000000", Bits: 0x3ff0 << 48, At: 2}})
	wantTokens(t, "1#3ff0000000000000", []api.Token{{Kind: api.LInt, Text: "1", N: 1}, {Kind: api.LFloat, Text: "#3ff0000000000000", Bits: 0x3ff0 << 48, At: 1}})
}

func TestMarks(t *testing.T) {
	list := strings.Fields(marks)
	if len(list) != 24 {
		t.Fatal(len(list))
	}
	for _, m := range list {
		wantTokens(t, m, one(api.LMark, m))
		wantTokens(t, "a"+m+"1", []api.Token{
			{Kind: api.LWord, Text: "a"},
			{Kind: api.LMark, Text: m, At: 1},
			{Kind: api.LInt, Text: "1", N: 1, At: 1 + len(m)},
		})
		wantTokens(t, m+" "+m, []api.Token{{Kind: api.LMark, Text: m}, {Kind: api.LMark, Text: m, At: len(m) + 1}})
	}
	for src, want := range map[string]string{
		"===": "== =", "====": "== ==", "!==": "!= =", "<==": "<= =", ">>=": "> >=", "<=>": "<= >", ":==": ":= =", "=:=": "= :=",
		"!!=": "! !=", "=!=": "= !=", "&&&&": "&& &&", "||||": "|| ||", "-=": "- =", "--": "- -", "+=": "+ =", "/=": "/ =", "(){}[]": "( ) { } [ ]",
		"=<": "= <", "=>": "= >", "<>": "< >", "*/": "* /", "!(": "! (", ",;": ", ;",
	} {
		got, bad := token.Tokens(src)
		var texts []string
		for _, tok := range got {
			texts = append(texts, tok.Text)
		}
		if bad != (api.Bad{}) || strings.Join(texts, " ") != want {
			t.Errorf("Tokens(%q) = %v, %v, want %s", src, got, bad, want)
		}
	}
	for src, at := range map[string]int{
		":": 0, "&": 0, "|": 0, "a &": 2, "a & b": 2, "&&&": 2, "|||": 2, ": =": 0, "& &": 0, "| |": 0, ":=:": 2, "&|": 0, "+&=": 1, "::=": 0, "=:": 1,
	} {
		wantBad(t, src, api.ErrText, at)
	}
}

// TestEveryByte puts each byte alone, and in front of and behind tokens.
func TestEveryByte(t *testing.T) {
	begins := "abcdefghijklmnopqrstuvwxyzABCDEFGHIJKLMNOPQRSTUVWXYZ_0123456789+-*/%<>=!(){}[],; \t\n\r"
	for c := range 256 {
		text := string([]byte{byte(c)})
		if strings.IndexByte(begins, byte(c)) >= 0 {
			if got, bad := token.Tokens(text); bad != (api.Bad{}) || len(got) > 1 {
				t.Errorf("Tokens(%q) = %v, %v", text, got, bad)
			}
			continue
		}
		wantBad(t, text, api.ErrText, 0)
		wantBad(t, text+" a", api.ErrText, 0)
		wantBad(t, "a"+text, api.ErrText, 1)
		wantBad(t, "12"+text, api.ErrText, 2)
		wantBad(t, "; "+text+"\n", api.ErrText, 2)
		wantBad(t, "// a\n"+text, api.ErrText, 5)
	}
	wantBad(t, "é", api.ErrText, 0)
	wantBad(t, "aé", api.ErrText, 1)
	wantBad(t, "a = \u00a01", api.ErrText, 4)
	wantBad(t, "\ufeffa", api.ErrText, 0)
	wantBad(t, "\"a\"", api.ErrText, 0)
}

func TestMaxText(t *testing.T) {
	full := func(src string, size int) string { return src + strings.Repeat(" ", size-len(src)) }
	wantTokens(t, full("", api.MaxText), nil)
	wantTokens(t, full("a", api.MaxText), one(api.LWord, "a"))
	wantTokens(t, full("//", api.MaxText), nil)
	wantTokens(t, strings.Repeat(" ", api.MaxText-1)+"a", []api.Token{{Kind: api.LWord, Text: "a", At: api.MaxText - 1}})
	wantBad(t, strings.Repeat(" ", api.MaxText-1)+"@", api.ErrText, api.MaxText-1)
	for _, size := range []int{api.MaxText + 1, api.MaxText + 2, 3 * api.MaxText, 1 << 20} {
		for _, src := range []string{"", "a", "if", "0", "1", "+", ":=", "//", "//@", " ", "#3ff0000000000000", "9223372036854775807", strings.Repeat("a ", 2001)} {
			wantBad(t, full(src, size), api.ErrLarge, 0)
		}
		// These have an error too, but behind byte 0.
		for _, src := range []string{"01", "1a", "#3ff00000000000000", "#3ff0000000000000_", "a@", " @", "\n#", "// \n@", " 9223372036854775808", " " + strings.Repeat("a", 25), "&&&", "-:"} {
			wantBad(t, full(src, size), api.ErrLarge, 0)
		}
		wantBad(t, strings.Repeat("a", size), api.ErrLarge, 0)
		wantBad(t, strings.Repeat("0", size), api.ErrLarge, 0)
		wantBad(t, strings.Repeat("a ", size), api.ErrLarge, 0)
	}
}

func TestMaxTokens(t *testing.T) {
	for _, kind := range []string{"a", "if", "7", "0", "+", ":=", "&&"} {
		row := strings.Repeat(kind+" ", api.MaxTokens-1) + kind
		wantCount(t, row[:len(row)-len(kind)], api.MaxTokens-1)
		wantCount(t, row, api.MaxTokens)
		for _, blanks := range []string{" ", "\n", " \t\r\n", "//", " // @ 01", "//\n", " //a\n //b", strings.Repeat(" ", 500)} {
			wantCount(t, row+blanks, api.MaxTokens)
		}
		for _, behind := range []string{
			"a", "if", "1", "+", ":=", "#3ff0000000000000", // one token more
			"@", ":", "&", "|", "#", "#12", "\x00", "\x80", "\xff", "01", "1a", "9223372036854775808", strings.Repeat("a", 25), // none
			"/ /", "/",
		} {
			wantBad(t, row+" "+behind, api.ErrLarge, len(row)+1)
			wantBad(t, row+" \n"+behind+" @", api.ErrLarge, len(row)+2)
			wantBad(t, row+"//\n"+behind, api.ErrLarge, len(row)+3)
			wantBad(t, row+" "+behind+" a a a", api.ErrLarge, len(row)+1)
		}
		wantBad(t, row[:len(row)-len(kind)]+"@ a a", api.ErrText, len(row)-len(kind))
	}
	wantCount(t, strings.Repeat(";", api.MaxTokens), api.MaxTokens)
	wantBad(t, strings.Repeat(";", api.MaxTokens+1), api.ErrLarge, api.MaxTokens)
	wantBad(t, strings.Repeat(";", api.MaxTokens)+"@", api.ErrLarge, api.MaxTokens)
	wantBad(t, strings.Repeat(";", api.MaxText), api.ErrLarge, api.MaxTokens)
	wantBad(t, strings.Repeat(";", api.MaxText+1), api.ErrLarge, 0)
	wantBad(t, "@"+strings.Repeat(";", api.MaxTokens+1), api.ErrText, 0)
	wantBad(t, ";@"+strings.Repeat(";", api.MaxTokens+1), api.ErrText, 1)
}

// TestTwoErrors: of two errors at one byte the one that the chapter tells first: a text's length and its number of tokens are told last.
func TestTwoErrors(t *testing.T) {
	long := strings.Repeat(" ", api.MaxText)
	for _, c := range []string{"@", ":", "&", "|", "\x00", "\x80", "\xff", "é", "#", "#12", "##", "#3ff000000000000"} {
		wantBad(t, c+long, api.ErrText, 0)
		wantBad(t, " "+c+long, api.ErrLarge, 0)
	}
	for _, c := range []string{"9223372036854775808", "9223372036854775808a", strings.Repeat("1", 9000)} {
		wantBad(t, c+long, api.ErrRange, 0)
		wantBad(t, " "+c+long, api.ErrLarge, 0)
	}
	wantBad(t, strings.Repeat("a", 25)+long, api.ErrLarge, 0)
	wantBad(t, strings.Repeat("@", api.MaxText+1), api.ErrText, 0)
	wantBad(t, strings.Repeat("#", api.MaxText+1), api.ErrText, 0)
	wantBad(t, strings.Repeat("7", api.MaxText+1), api.ErrRange, 0)

	// The last token's own error, at a byte that stands behind MaxTokens tokens.
	row := strings.Repeat(";", api.MaxTokens-1)
	wantBad(t, row+"1a", api.ErrText, len(row)+1)
	wantBad(t, row+"1_", api.ErrText, len(row)+1)
	wantBad(t, row+"01", api.ErrText, len(row)+1)
	wantBad(t, row+"#3ff00000000000000", api.ErrText, len(row)+17)
	wantBad(t, row+"#3ff0000000000000z", api.ErrText, len(row)+17)
	wantBad(t, row+"1@", api.ErrLarge, len(row)+1)
	wantBad(t, row+"1+", api.ErrLarge, len(row)+1)

	// What stands at once behind a number begins no token.
	wantBad(t, "1"+strings.Repeat("a", 25), api.ErrText, 1)
	wantBad(t, "#3ff0000000000000"+strings.Repeat("a", 25), api.ErrText, 17)
	wantBad(t, "#3ff00000000000009223372036854775808", api.ErrText, 17)
}

func TestLine(t *testing.T) {
	for _, c := range []struct {
		src              string
		at, line, column int
	}{
		{"", 0, 1, 1}, {"", 1, 1, 1}, {"", -1, 1, 1}, {"", math.MaxInt, 1, 1}, {"", math.MinInt, 1, 1},
		{"a\nbc", 0, 1, 1}, {"a\nbc", 1, 1, 2}, {"a\nbc", 2, 2, 1}, {"a\nbc", 3, 2, 2}, {"a\nbc", 4, 2, 3}, {"a\nbc", 5, 2, 3},
		{"a\nbc", -1, 1, 1}, {"a\nbc", math.MinInt, 1, 1}, {"a\nbc", math.MaxInt, 2, 3},
		{"\n", 0, 1, 1}, {"\n", 1, 2, 1}, {"\n", 2, 2, 1}, {"\n", -5, 1, 1},
		{"\n\n\n", 0, 1, 1}, {"\n\n\n", 1, 2, 1}, {"\n\n\n", 2, 3, 1}, {"\n\n\n", 3, 4, 1}, {"\n\n\n", 9, 4, 1},
		{"ab\r\nc", 2, 1, 3}, {"ab\r\nc", 3, 1, 4}, {"ab\r\nc", 4, 2, 1}, {"a\rb", 2, 1, 3},
		{"é\né", 1, 1, 2}, {"é\né", 2, 1, 3}, {"é\né", 4, 2, 2}, {"\x00\xff\n\x80", 3, 2, 1}, {"\u2028\v\f\u0085a", 7, 1, 8},
		{strings.Repeat("\n", 20000), 20000, 20001, 1}, {strings.Repeat("a", 20000), 20000, 1, 20001}, {strings.Repeat("ab\n", 9000), 26999, 9000, 3},
	} {
		if line, column := token.Line(c.src, c.at); line != c.line || column != c.column {
			t.Errorf("Line(%q, %d) = %d, %d, want %d, %d", short(c.src), c.at, line, column, c.line, c.column)
		}
	}
}

// TestNewMemory: no token's text is a piece of the text that was handed in, and no two answers share their list.
func TestNewMemory(t *testing.T) {
	src := strings.Repeat("abc := 123 + #3ff0000000000000 ; if ", 3)
	first, _ := token.Tokens(src)
	second, _ := token.Tokens(src)
	from := uintptr(unsafe.Pointer(unsafe.StringData(src)))
	for _, tok := range first {
		if at := uintptr(unsafe.Pointer(unsafe.StringData(tok.Text))); at >= from && at < from+uintptr(len(src)) {
			t.Errorf("%q stands in the text that was handed in", tok.Text)
		}
	}
	want := slices.Clone(second)
	for i := range first[:cap(first)] {
		first[:cap(first)][i] = api.Token{Kind: 9}
	}
	if !slices.Equal(second, want) {
		t.Error("an answer changed with another one")
	}
}
