package token

import "strings"

// oneByteMarks are the marks of one byte.
const oneByteMarks = "+-*/%<>=!(){}[],;"

// markLen is how many bytes the longest mark has with which a text begins; 0, if it begins with none.
func markLen(text string) int {
	switch text[:min(2, len(text))] {
	case ":=", "==", "!=", "<=", ">=", "&&", "||":
		return 2
	}
	if text != "" && strings.IndexByte(oneByteMarks, text[0]) >= 0 {
		return 1
	}
	return 0
}

func blank(c byte) bool {
	return c == ' ' || c == '\t' || c == '\n' || c == '\r'
}

func letter(c byte) bool {
	return 'a' <= c && c <= 'z' || 'A' <= c && c <= 'Z' || c == '_'
}

func digit(c byte) bool {
	return '0' <= c && c <= '9'
}

// hexDigit tells whether a byte is a digit of a float; capitals are none.
func hexDigit(c byte) bool {
	return digit(c) || 'a' <= c && c <= 'f'
}

// wordByte tells whether a byte can stand in a word, behind its first one.
func wordByte(c byte) bool {
	return letter(c) || digit(c)
}
