package lexer

import (
	"strconv"
	"strings"

	"sederunt/api"
)

// symbols contains the symbols. The full stop behind them in the chapter ends its sentence, and is none.
const symbols = "{}()[],;:=/+-<>|&*"

// readToken returns the token at the beginning of a text, without its line, and its size; or the size 0 if there is none.
func readToken(s string) (api.Token, int) {
	if s == "" {
		return api.Token{}, 0
	}
	switch c := s[0]; {
	case isLetter(c):
		return readName(s)
	case isDigit(c):
		return readInt(s)
	case c == '"':
		return readString(s)
	case strings.IndexByte(symbols, c) >= 0:
		return api.Token{Kind: api.TokenSymbol, Text: s[:1]}, 1
	}
	return api.Token{}, 0
}

// whole returns the token that a text consists of, or one of the kind 0 if it is none.
func whole(s string) api.Token {
	t, size := readToken(s)
	if size < len(s) {
		return api.Token{}
	}
	return t
}

// readName is readToken for a text that begins with a letter.
func readName(s string) (api.Token, int) {
	size := countBytes(s, func(c byte) bool { return isLetter(c) || isDigit(c) })
	if size > api.MaxName {
		return api.Token{}, 0
	}
	return api.Token{Kind: api.TokenName, Text: s[:size]}, size
}

// readInt is readToken for a text that begins with a digit.
func readInt(s string) (api.Token, int) {
	size := countBytes(s, isDigit)
	if s[0] == '0' && size > 1 {
		return api.Token{}, 0
	}
	n, err := strconv.ParseInt(s[:size], 10, 64)
	if err != nil {
		return api.Token{}, 0
	}
	return api.Token{Kind: api.TokenInt, Int: n}, size
}

// countBytes returns how many bytes at the beginning of a text are of a kind.
func countBytes(s string, isOfKind func(byte) bool) int {
	for i := range len(s) {
		if !isOfKind(s[i]) {
			return i
		}
	}
	return len(s)
}

// isLetter reports whether a byte can begin a name.
func isLetter(c byte) bool { return 'a' <= c && c <= 'z' || 'A' <= c && c <= 'Z' || c == '_' }

// isDigit reports whether a byte is a decimal digit.
func isDigit(c byte) bool { return '0' <= c && c <= '9' }
