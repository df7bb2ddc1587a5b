package token

import (
	"strconv"
	"strings"

	"stockade/api"
)

// maxWord is the most bytes of a word.
const maxWord = 24

// floatDigits is how many digits stand behind a float's "#".
const floatDigits = 16

// A reader goes over a text from the left. What it can't read ends the reading by a panic with an api.Bad.
type reader struct {
	src string
	at  int
}

// read is the tokens of a text, whatever its length is.
func read(src string) (tokens []api.Token, bad api.Bad) {
	defer func() {
		if stop := recover(); stop != nil {
			tokens, bad = nil, stop.(api.Bad)
		}
	}()
	r := &reader{src: src}
	for r.blanks(); r.more(); r.blanks() {
		if len(tokens) == api.MaxTokens { // ahead of reading on: what stands here doesn't matter any more
			refuse(api.ErrLarge, r.at)
		}
		tokens = append(tokens, r.token())
	}
	return tokens, api.Bad{}
}

// refuse ends the reading.
func refuse(err error, at int) {
	panic(api.Bad{Err: err, At: at})
}

func (r *reader) more() bool {
	return r.at < len(r.src)
}

// over goes over bytes for as long as they are wanted.
func (r *reader) over(wanted func(c byte) bool) {
	for r.more() && wanted(r.src[r.at]) {
		r.at++
	}
}

func (r *reader) blanks() {
	r.over(blank)
	for strings.HasPrefix(r.src[r.at:], "//") {
		r.over(func(c byte) bool { return c != '\n' })
		r.over(blank)
	}
}

// token reads what begins here.
func (r *reader) token() api.Token {
	switch c := r.src[r.at]; {
	case letter(c):
		return r.word()
	case digit(c):
		return r.integer()
	case c == '#':
		return r.float()
	}
	return r.mark()
}

func (r *reader) word() api.Token {
	from := r.at
	r.over(wordByte)
	if r.at-from > maxWord {
		refuse(api.ErrLarge, from)
	}
	t := r.since(from, api.LWord)
	if Key(t.Text) {
		t.Kind = api.LKey
	}
	return t
}

func (r *reader) integer() api.Token {
	from := r.at
	if r.src[from] == '0' { // a 0 is an int by itself: a digit behind it is refused there, not taken
		r.at++
	} else {
		r.over(digit)
	}
	t := r.since(from, api.LInt)
	n, err := strconv.Atoi(t.Text)
	if err != nil {
		refuse(api.ErrRange, from)
	}
	r.apart()
	t.N = n
	return t
}

func (r *reader) float() api.Token {
	from := r.at
	r.at++
	r.over(func(c byte) bool { return hexDigit(c) && r.at-from <= floatDigits })
	if r.at-from != 1+floatDigits {
		refuse(api.ErrText, from)
	}
	r.apart()
	t := r.since(from, api.LFloat)
	t.Bits, _ = strconv.ParseUint(t.Text[1:], 16, 64) // 16 such digits are always a number of 64 bits
	return t
}

// apart refuses what would read as a part of the number that ends here.
func (r *reader) apart() {
	if r.more() && wordByte(r.src[r.at]) {
		refuse(api.ErrText, r.at)
	}
}

func (r *reader) mark() api.Token {
	from := r.at
	r.at += markLen(r.src[from:])
	if r.at == from {
		refuse(api.ErrText, from)
	}
	return r.since(from, api.LMark)
}

// since is the token from a byte up to here. Its text is a copy, so that a token doesn't hold the whole text.
func (r *reader) since(from, kind int) api.Token {
	return api.Token{Kind: kind, Text: strings.Clone(r.src[from:r.at]), At: from}
}
