package lexer

import (
	"strings"

	"sederunt/api"
)

// hexDigits are the digits behind \x; capital letters are none.
const hexDigits = "0123456789abcdef"

// appendCharacter appends what stands for a byte in a string literal.
func appendCharacter(b []byte, c byte) []byte {
	switch {
	case c == '"' || c == '\\':
		return append(b, '\\', c)
	case c == '\n':
		return append(b, '\\', 'n')
	case isPrintable(c):
		return append(b, c)
	}
	return append(b, '\\', 'x', hexDigits[c>>4], hexDigits[c&15])
}

// readString is readToken for a text that begins with a quote.
func readString(s string) (api.Token, int) {
	var meant []byte
	for i := 1; i < len(s); {
		if s[i] == '"' {
			return api.Token{Kind: api.TokenString, Str: string(meant)}, i + 1
		}
		c, size := readCharacter(s[i:])
		if size == 0 {
			break
		}
		meant = append(meant, c)
		i += size
	}
	return api.Token{}, 0
}

// readCharacter returns the byte that is meant at the beginning of a text inside a string, and how many bytes stand for it; or the size 0 if the text does not go on like a string.
func readCharacter(s string) (byte, int) {
	switch {
	case strings.HasPrefix(s, `\"`), strings.HasPrefix(s, `\\`):
		return s[1], 2
	case strings.HasPrefix(s, `\n`):
		return '\n', 2
	case strings.HasPrefix(s, `\x`):
		return readHex(s)
	case s[0] == '\\' || !isPrintable(s[0]):
		return 0, 0
	}
	return s[0], 1
}

// readHex is readCharacter for a text that begins with \x.
func readHex(s string) (byte, int) {
	if len(s) < 4 {
		return 0, 0
	}
	high, low := strings.IndexByte(hexDigits, s[2]), strings.IndexByte(hexDigits, s[3])
	if high < 0 || low < 0 {
		return 0, 0
	}
	return byte(high<<4 | low), 4
}

// isPrintable reports whether a byte is a character of ASCII, or a space.
func isPrintable(c byte) bool { return 32 <= c && c <= 126 }
