package lexer

import (
	"fmt"
	"math/rand"
	"slices"
	"strings"
	"testing"

	"sederunt/api"
)

// plainQuote is Quote, as the chapter words it.
func plainQuote(s string) string {
	b := `"`
	for _, c := range []byte(s) {
		switch {
		case c == '"':
			b += `\"`
		case c == '\\':
			b += `\\`
		case c == '\n':
			b += `\n`
		case c >= 32 && c <= 126:
			b += string(rune(c))
		default:
			b += fmt.Sprintf(`\x%02x`, c)
		}
	}
	return b + `"`
}

// checkQuote checks the literal of a string, and that it means the string.
func checkQuote(t *testing.T, s string) {
	t.Helper()
	literal := Quote(s)
	if want := plainQuote(s); literal != want {
		t.Fatalf("P6.1: Quote(%q) = %s, want %s", s, literal, want)
	}
	if back, e := Unquote(literal); back != s || e != api.OK {
		t.Fatalf("P6.2: Unquote(Quote(%q)) = %q, %v", s, back, e)
	}
	if l, _, e := Tokens(literal); len(literal) <= api.MaxText && (e != api.OK || !slices.Equal(l, tokens(text(s, 1)))) {
		t.Fatalf("P6.2: Tokens(Quote(%q)) = %v, %v", s, l, e)
	}
}

func TestQuote(t *testing.T) {
	for _, x := range []struct{ s, want string }{
		{"", `""`}, {"a", `"a"`}, {"\"\x00", `"\"\x00"`}, {"\n", `"\n"`}, {"\r\t", `"\x0d\x09"`}, {`\n`, `"\\n"`}, {" ~", `" ~"`}, {"\x1f\x7f\x80\xff", `"\x1f\x7f\x80\xff"`}, {"é", `"\xc3\xa9"`},
		{"//", `"//"`}, {`"`, `"\""`}, {`\"`, `"\\\""`}, {"'", `"'"`}, {"\x0a1", `"\n1"`}, {"\x0bcd", `"\x0bcd"`},
	} {
		if got := Quote(x.s); got != x.want {
			t.Errorf("P6.1: Quote(%q) = %s, want %s", x.s, got, x.want)
		}
		checkQuote(t, x.s)
	}
}

func TestQuoteOfAnyString(t *testing.T) {
	for i := range 1 << 16 {
		checkQuote(t, string([]byte{byte(i >> 8), byte(i)}))
	}
	source := rand.New(rand.NewSource(60))
	for range 2000 {
		b := make([]byte, source.Intn(60))
		source.Read(b)
		checkQuote(t, string(b))
	}
	checkQuote(t, repeated("a\x00\"", 70000))
}

func TestUnquote(t *testing.T) {
	long := repeated("abc", 200000)
	for _, x := range []struct{ s, want string }{
		{`""`, ""}, {`"a"`, "a"}, {`"\x41\x0a"`, "A\n"}, {`"\x22\x5c"`, `"\`}, {`"\n\\\""`, "\n\\\""}, {`" // "`, " // "}, {`"\xff\x80"`, "\xff\x80"}, {`"` + long + `"`, long}, {`"\\x41"`, `\x41`}, {`"\x411"`, "A1"},
	} {
		if got, e := Unquote(x.s); got != x.want || e != api.OK {
			t.Errorf("P6.1: Unquote(%.50q) = %.50q, %v", x.s, got, e)
		}
	}
	for _, s := range []string{
		"", " ", "a", "1", "=", `"`, `"a`, `a"`, ` "a"`, `"a" `, "\"a\"\n", "\n\"a\"", `"a""b"`, `"a"b`, `"a" "b"`, `"a"//`, `//"a"`, `"a"=`, `"\"`, `"\\"\"`, `"\x"`, `"\x1"`, `"\x1G"`, `"\xAB"`, `"\t"`, `"\`, `"\x`, `"\xa`,
		"\"\n\"", "\"\t\"", "\"\x7f\"", "\"\xff\"", "\"é\"", `'a'`, "`a`", `"` + long, long, "\x00", `"a"` + "\x00",
	} {
		if got, e := Unquote(s); got != "" || e != api.ErrSyntax {
			t.Errorf("P6.1: Unquote(%.50q) = %.50q, %v, want ErrSyntax", s, got, e)
		}
	}
}

// checkUnquote compares Unquote of a text with what the patterns lead to.
func checkUnquote(t *testing.T, s string) {
	t.Helper()
	want, wantErr := "", api.ErrSyntax
	if token, size := plainToken(s); token.Kind == 3 && size == len(s) {
		want, wantErr = token.Str, api.OK
	}
	if got, e := Unquote(s); got != want || e != wantErr {
		t.Fatalf("P6.1: Unquote(%q) = %q, %v, want %q, %v", s, got, e, want, wantErr)
	}
}

func TestUnquoteOfShortTexts(t *testing.T) {
	for i := range 1 << 16 {
		pair := string([]byte{byte(i >> 8), byte(i)})
		checkUnquote(t, pair)
		checkUnquote(t, `"`+pair+`"`)
		checkUnquote(t, `"\x`+pair+`"`)
	}
	for i := range 1 << 8 {
		checkUnquote(t, `"\`+string([]byte{byte(i)})+`"`)
		checkUnquote(t, `"\`+string([]byte{byte(i)})+`11"`)
	}
	shortTexts("a0\"\\nx \n", 5, func(s string) {
		checkUnquote(t, s)
		checkUnquote(t, `"`+s)
		checkUnquote(t, `"`+s+`"`)
	})
}

func TestStringsInTexts(t *testing.T) {
	source := rand.New(rand.NewSource(67))
	for range 500 {
		var words []string
		var want []api.Token
		for range source.Intn(20) {
			b := make([]byte, source.Intn(8))
			source.Read(b)
			words = append(words, Quote(string(b)))
			want = append(want, text(string(b), 1))
		}
		// Strings need nothing between them.
		if got, _, e := Tokens(strings.Join(words, "")); e != api.OK || !slices.Equal(got, want) {
			t.Fatalf("P6.2: Tokens(%q) = %v, %v", words, got, e)
		}
	}
}
