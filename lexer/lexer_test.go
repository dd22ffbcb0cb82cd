package lexer

import (
	"math"
	"math/big"
	"math/rand"
	"regexp"
	"slices"
	"strconv"
	"strings"
	"testing"

	"sederunt/api"
)

// allSymbols are the symbols of the chapter: the full stop behind them ends the sentence.
var allSymbols = strings.Fields("{ } ( ) [ ] , ; : = / + - < > | & *")

// The patterns of the chapter, for the beginning of a text.
var (
	gapPattern    = regexp.MustCompile(`^(?:[ \t\r\n]|//[^\n]*)*`)
	wordPattern   = regexp.MustCompile(`^[A-Za-z_][A-Za-z0-9_]*`)
	digitsPattern = regexp.MustCompile(`^[0-9]+`)
	stringPattern = regexp.MustCompile(`^"(?:[ !#-\[\]-~]|\\["\\n]|\\x[0-9a-f]{2})*"`)
	symbolPattern = regexp.MustCompile(`^[{}()\[\],;:=/+<>|&*-]`)
)

// plainToken returns the token at the beginning of a text and its size, or the size 0, by the patterns.
func plainToken(s string) (api.Token, int) {
	if word := wordPattern.FindString(s); word != "" && len(word) <= 24 {
		return api.Token{Kind: 1, Text: word}, len(word)
	}
	if digits := digitsPattern.FindString(s); digits != "" {
		n, _ := new(big.Int).SetString(digits, 10)
		if n.String() == digits && n.IsInt64() {
			return api.Token{Kind: 2, Int: n.Int64()}, len(digits)
		}
	}
	if literal := stringPattern.FindString(s); literal != "" {
		// Go has the same escapes, and more.
		meant, _ := strconv.Unquote(literal)
		return api.Token{Kind: 3, Str: meant}, len(literal)
	}
	if symbol := symbolPattern.FindString(s); symbol != "" {
		return api.Token{Kind: 4, Text: symbol}, 1
	}
	return api.Token{}, 0
}

// plainTokens is Tokens by the patterns.
func plainTokens(s string) ([]api.Token, int, api.Errno) {
	if len(s) > 65536 {
		return nil, 0, api.ErrTooLarge
	}
	var l []api.Token
	for at := 0; ; {
		at += len(gapPattern.FindString(s[at:]))
		if at == len(s) {
			return l, 0, api.OK
		}
		line := 1 + strings.Count(s[:at], "\n")
		t, size := plainToken(s[at:])
		if size == 0 {
			return nil, line, api.ErrSyntax
		}
		t.Line = line
		l = append(l, t)
		at += size
	}
}

// checkTokens compares Tokens of a text with what the patterns lead to.
func checkTokens(t *testing.T, s string) {
	t.Helper()
	got, line, e := Tokens(s)
	want, wantLine, wantErr := plainTokens(s)
	if !slices.Equal(got, want) || line != wantLine || e != wantErr {
		t.Fatalf("P6.1: Tokens(%q) = %v, %d, %v, want %v, %d, %v", s, got, line, e, want, wantLine, wantErr)
	}
}

// name, number, text and symbol return a token of a line.
func name(s string, line int) api.Token   { return api.Token{Kind: 1, Text: s, Line: line} }
func number(n int64, line int) api.Token  { return api.Token{Kind: 2, Int: n, Line: line} }
func text(s string, line int) api.Token   { return api.Token{Kind: 3, Str: s, Line: line} }
func symbol(s string, line int) api.Token { return api.Token{Kind: 4, Text: s, Line: line} }

// tokens returns a list of tokens.
func tokens(l ...api.Token) []api.Token { return l }

// repeated returns a text of some bytes that repeats a shorter one.
func repeated(s string, length int) string { return strings.Repeat(s, length/len(s)+1)[:length] }

func TestTokens(t *testing.T) {
	long := repeated("name_", 24)
	for _, x := range []struct {
		s    string
		want []api.Token
	}{
		{"", nil}, {" ", nil}, {" \t\r\n\n", nil}, {"//", nil}, {"// a \"", nil}, {"//\n//\n", nil}, {"//\xff\x00\n", nil}, {"////", nil},

		{"a1=2(b) // c", tokens(name("a1", 1), symbol("=", 1), number(2, 1), symbol("(", 1), name("b", 1), symbol(")", 1))},
		{"7a", tokens(number(7, 1), name("a", 1))}, {"0a", tokens(number(0, 1), name("a", 1))}, {"0_1", tokens(number(0, 1), name("_1", 1))},
		{"0x1f", tokens(number(0, 1), name("x1f", 1))}, {"1e5", tokens(number(1, 1), name("e5", 1))},
		{"a 0 b", tokens(name("a", 1), number(0, 1), name("b", 1))}, {"-0", tokens(symbol("-", 1), number(0, 1))},
		{"-12", tokens(symbol("-", 1), number(12, 1))}, {"+1", tokens(symbol("+", 1), number(1, 1))}, {"1-2", tokens(number(1, 1), symbol("-", 1), number(2, 1))},
		{"_", tokens(name("_", 1))}, {"__9", tokens(name("__9", 1))}, {"A_z0Z9", tokens(name("A_z0Z9", 1))}, {"read", tokens(name("read", 1))},
		{long, tokens(name(long, 1))}, {long + " a", tokens(name(long, 1), name("a", 1))}, {"1" + long, tokens(number(1, 1), name(long, 1))},
		{"0", tokens(number(0, 1))}, {"10", tokens(number(10, 1))}, {"9223372036854775807", tokens(number(math.MaxInt64, 1))},
		{"999999999999999999", tokens(number(999999999999999999, 1))}, {"1234567890a", tokens(number(1234567890, 1), name("a", 1))},
		{`""`, tokens(text("", 1))}, {`"a b"`, tokens(text("a b", 1))}, {`"\"\\\n"`, tokens(text("\"\\\n", 1))}, {`"\x00\xff\x41"`, tokens(text("\x00\xffA", 1))},
		{`"\\n"`, tokens(text(`\n`, 1))}, {`"\\""b"`, tokens(text(`\`, 1), text("b", 1))}, {`"a""b"`, tokens(text("a", 1), text("b", 1))}, {`"\x0a1"`, tokens(text("\n1", 1))},
		{`"//"`, tokens(text("//", 1))}, {`a"b"1"c"`, tokens(name("a", 1), text("b", 1), number(1, 1), text("c", 1))}, {`" ~"`, tokens(text(" ~", 1))},
		{"a//b", tokens(name("a", 1))}, {"a/b", tokens(name("a", 1), symbol("/", 1), name("b", 1))}, {"/ /", tokens(symbol("/", 1), symbol("/", 1))},
		{"///", nil}, {"*//*", tokens(symbol("*", 1))}, {"/*", tokens(symbol("/", 1), symbol("*", 1))}, {"||", tokens(symbol("|", 1), symbol("|", 1))},
		{"==>", tokens(symbol("=", 1), symbol("=", 1), symbol(">", 1))}, {"<=&&", tokens(symbol("<", 1), symbol("=", 1), symbol("&", 1), symbol("&", 1))},
	} {
		got, line, e := Tokens(x.s)
		if !slices.Equal(got, x.want) || line != 0 || e != api.OK {
			t.Errorf("P6.1: Tokens(%q) = %v, %d, %v, want %v", x.s, got, line, e, x.want)
		}
		checkTokens(t, x.s)
	}
}

func TestSymbols(t *testing.T) {
	if len(allSymbols) != 18 {
		t.Fatalf("%d symbols", len(allSymbols))
	}
	var all []api.Token
	for _, s := range allSymbols {
		all = append(all, symbol(s, 1))
		if got, _, e := Tokens("a" + s + "1"); !slices.Equal(got, tokens(name("a", 1), symbol(s, 1), number(1, 1))) || e != api.OK {
			t.Errorf("P6.1: Tokens with the symbol %s: %v, %v", s, got, e)
		}
	}
	if got, _, e := Tokens(strings.Join(allSymbols, "")); !slices.Equal(got, all) || e != api.OK {
		t.Errorf("P6.1: Tokens of all symbols: %v, %v", got, e)
	}
}

func TestLinesOfTokens(t *testing.T) {
	s := "a\nb c\n\n// d\n\"e\" // f\r\n\r\n=7//\n;"
	want := tokens(name("a", 1), name("b", 2), name("c", 2), text("e", 5), symbol("=", 7), number(7, 7), symbol(";", 8))
	if got, line, e := Tokens(s); !slices.Equal(got, want) || line != 0 || e != api.OK {
		t.Errorf("P6.1: Tokens(%q) = %v, %d, %v", s, got, line, e)
	}
	for _, x := range []struct {
		s    string
		line int
	}{
		{"a", 1}, {"\na", 2}, {"\n\n\na", 4}, {"\r\ra", 1}, {"\r\n\r\na", 3}, {"//\n//\na", 3}, {"// x // y \n a", 2}, {" \t a\n\n", 1}, {"\n//\r\n\t\n //\n\n a", 6},
	} {
		if got, _, e := Tokens(x.s); len(got) != 1 || got[0] != name("a", x.line) || e != api.OK {
			t.Errorf("P6.1: Tokens(%q) = %v, %v, want the line %d", x.s, got, e, x.line)
		}
	}
	// A line feed that is meant by a string is none of the text.
	if got, _, _ := Tokens("\"\\n\\n\\x0a\" b"); len(got) != 2 || got[1] != name("b", 1) {
		t.Errorf("P6.1: the tokens behind a string with line feeds are %v", got)
	}
}

func TestSyntaxErrors(t *testing.T) {
	wide := repeated("name_", 25)
	for _, x := range []struct {
		s    string
		line int
	}{
		{"!", 1}, {"a ! b", 1}, {".", 1}, {"a.b", 1}, {"1.5", 1}, {"@", 1}, {"'a'", 1}, {"`a`", 1}, {"#", 1}, {"$", 1}, {"%", 1}, {"?", 1}, {"^", 1}, {"~", 1}, {`\`, 1}, {`\n`, 1},
		{"\x00", 1}, {"\v", 1}, {"\f", 1}, {"\x7f", 1}, {"\x85", 1}, {"\xa0", 1}, {"\u00a0", 1}, {"\u2028", 1}, {"é", 1}, {"aé", 1}, {"\ufeffa", 1}, {"\xff", 1},

		{wide, 1}, {"1" + wide, 1}, {repeated("a", 1000), 1}, {repeated("_", 25), 1}, {"a " + wide + " b", 1}, {"\n\n" + wide + "\n", 3},
		{"007", 1}, {"00", 1}, {"01", 1}, {"1 000", 1}, {"09a", 1}, {"a 00", 1}, {"0000000000000000000000", 1}, {"-01", 1}, {"00x", 1},
		{"9223372036854775808", 1}, {"-9223372036854775808", 1}, {"18446744073709551616", 1}, {"18446744073709551617", 1}, {repeated("1", 3000), 1}, {"10000000000000000000a", 1},

		{`"`, 1}, {`"a`, 1}, {`"a\`, 1}, {`"a\"`, 1}, {`"\x"`, 1}, {`"\x1"`, 1}, {`"\x1g"`, 1}, {`"\xg1"`, 1}, {`"\xAF"`, 1}, {`"\xaF"`, 1}, {`"\xFa"`, 1}, {`"\x`, 1}, {`"\x1`, 1}, {`"\x11`, 1},
		{`"\X11"`, 1}, {`"\N"`, 1}, {`"\t"`, 1}, {`"\r"`, 1}, {`"\0"`, 1}, {`"\'"`, 1}, {`"\u0041"`, 1}, {`"\101"`, 1}, {`"\ "`, 1}, {`"\/"`, 1},
		{"\"a\nb\"", 1}, {"\"\n\"", 1}, {"\"\r\"", 1}, {"\"\t\"", 1}, {"\"\x00\"", 1}, {"\"\x1f\"", 1}, {"\"\x7f\"", 1}, {"\"\x80\"", 1}, {"\"é\"", 1}, {"\"\xff\"", 1}, {"\"\\\n\"", 1},

		{"a\n!", 2}, {"a\nb\n\n\"c", 4}, {"a\n\"b\nc\" d", 2}, {"// !\n!", 2}, {"//\n//\n007\n!", 3}, {"\r\n\r\n@", 3}, {"\r@", 1}, {"a !\n!", 1}, {"\"\\n\\n\" !", 1}, {"\n\"\\n", 2}, {"a\n\"b\n\n\n", 2},
	} {
		if got, line, e := Tokens(x.s); len(got) != 0 || line != x.line || e != api.ErrSyntax {
			t.Errorf("P6.1: Tokens(%q) = %v, %d, %v, want ErrSyntax in line %d", x.s, got, line, e, x.line)
		}
		checkTokens(t, x.s)
	}
}

func TestSize(t *testing.T) {
	const limit = 65536
	for _, x := range []struct {
		s     string
		count int
		line  int
		err   api.Errno
	}{
		{strings.Repeat(" ", limit), 0, 0, api.OK}, {strings.Repeat(";", limit), limit, 0, api.OK}, {strings.Repeat("\n", limit-1) + "a", 1, 0, api.OK},
		{strings.Repeat("a ", limit/2), limit / 2, 0, api.OK}, {"//" + strings.Repeat("/", limit-2), 0, 0, api.OK}, {`"` + strings.Repeat("a", limit-2) + `"`, 1, 0, api.OK},
		{strings.Repeat("//\n", limit/3) + "b", 1, 0, api.OK},

		{strings.Repeat(" ", limit+1), 0, 0, api.ErrTooLarge}, {strings.Repeat(";", limit+1), 0, 0, api.ErrTooLarge}, {strings.Repeat("!", limit+1), 0, 0, api.ErrTooLarge},
		{"\n!" + strings.Repeat(" ", 2*limit), 0, 0, api.ErrTooLarge}, {`"` + strings.Repeat("a", limit-1) + `"`, 0, 0, api.ErrTooLarge},

		{strings.Repeat("\n", limit-1) + "!", 0, limit, api.ErrSyntax}, {`"` + strings.Repeat("a", limit-1), 0, 1, api.ErrSyntax}, {strings.Repeat("a", limit), 0, 1, api.ErrSyntax}, {strings.Repeat("1", limit), 0, 1, api.ErrSyntax},
	} {
		got, line, e := Tokens(x.s)
		if len(got) != x.count || line != x.line || e != x.err {
			t.Errorf("P6.1: Tokens of %d bytes, from %q on: %d tokens, %d, %v, want %d, %d, %v", len(x.s), x.s[:3], len(got), line, e, x.count, x.line, x.err)
		}
	}
	if got, _, _ := Tokens(strings.Repeat("\n", limit-1) + "a"); len(got) != 1 || got[0].Line != limit {
		t.Errorf("P6.1: the last token of the longest text is %v", got)
	}
}

// shortTexts calls a function with all texts that consist of at most some bytes of an alphabet.
func shortTexts(alphabet string, most int, do func(string)) {
	do("")
	if most == 0 {
		return
	}
	for _, c := range []byte(alphabet) {
		shortTexts(alphabet, most-1, func(s string) { do(string([]byte{c}) + s) })
	}
}

func TestShortTexts(t *testing.T) {
	for i := range 1 << 16 {
		checkTokens(t, string([]byte{byte(i >> 8), byte(i)}))
	}
	for i := range 1 << 8 {
		checkTokens(t, string([]byte{byte(i)}))
		checkTokens(t, "a"+string([]byte{byte(i)})+"1")
	}
	shortTexts("a01\"\\nx/\n ", 5, func(s string) { checkTokens(t, s) })
}

// wildText returns a text that is made of parts of tokens, gaps and mistakes.
func wildText(source *rand.Rand, parts []string, most int) string {
	var b strings.Builder
	for range source.Intn(most) {
		b.WriteString(parts[source.Intn(len(parts))])
	}
	return b.String()
}

// tokenParts returns parts of texts that have tokens.
func tokenParts() []string {
	parts := []string{
		"a", "_b1", "Zz", repeated("long", 23), "0", "1", "42", "9223372036854775807", "922337203685477580", `""`, `"a b"`, `"\""`, `"\\"`, `"\n"`, `"\x00\x7f"`, `"//"`,
		" ", " ", "  ", "\t", "\r\n", "\n", "\n\n", "// c\n", "//\n", "//\"\n", " //\xff é\r\n",
	}
	return append(parts, allSymbols...)
}

func TestWildTexts(t *testing.T) {
	source := rand.New(rand.NewSource(6))
	good := tokenParts()
	wrong := append(tokenParts(), "!", ".", "\x00", `"`, `\`, "é", "00")
	fine := 0
	for range 20000 {
		checkTokens(t, wildText(source, wrong, 20))
		s := wildText(source, good, 30)
		checkTokens(t, s)
		if l, _, _ := Tokens(s); len(l) > 5 {
			fine++
		}
	}
	if fine < 2000 {
		t.Errorf("only %d wild texts have tokens", fine)
	}
}

func TestIsName(t *testing.T) {
	for _, x := range []struct {
		s    string
		want bool
	}{
		{"a", true}, {"Z", true}, {"_", true}, {"_0", true}, {"a1_B", true}, {"site", true}, {"x00", true}, {repeated("a", 24), true}, {repeated("_9", 24), true},
		{"", false}, {"0", false}, {"1a", false}, {"a ", false}, {" a", false}, {"a\n", false}, {"\na", false}, {"a b", false}, {"a-b", false}, {"a.b", false}, {"a;", false}, {"a//", false},
		{"é", false}, {"aé", false}, {"a\x00", false}, {"\"a\"", false}, {"=", false}, {"a\xff", false}, {repeated("a", 25), false}, {repeated("a", 26), false}, {repeated("a", 100000), false},
	} {
		if got := IsName(x.s); got != x.want {
			t.Errorf("P6.1: IsName(%q) = %v", x.s, got)
		}
	}
	pattern := regexp.MustCompile(`\A[A-Za-z_][A-Za-z0-9_]*\z`)
	for i := range 1 << 8 {
		c := string([]byte{byte(i)})
		for _, s := range []string{c, "a" + c, c + "a", "a" + c + "1"} {
			if got, want := IsName(s), pattern.MatchString(s); got != want {
				t.Errorf("P6.1: IsName(%q) = %v, want %v", s, got, want)
			}
		}
	}
}

func TestWord(t *testing.T) {
	for _, x := range []struct {
		t    api.Token
		want string
	}{
		{name("abc", 3), "abc"}, {symbol("=", 1), "="}, {number(0, 1), "0"}, {number(12, 1), "12"}, {number(-12, 1), "-12"}, {number(math.MaxInt64, 0), "9223372036854775807"}, {number(math.MinInt64, 0), "-9223372036854775808"},
		{text("", 1), `""`}, {text("a\"\\\n\x00é", 1), `"a\"\\\n\x00\xc3\xa9"`},
		{api.Token{}, ""}, {api.Token{Kind: 5, Text: "a", Int: 1, Str: "b"}, ""}, {api.Token{Kind: -1, Text: "a", Int: 1, Str: "b"}, ""}, {api.Token{Kind: math.MinInt, Text: "a"}, ""},
		{api.Token{Kind: 1, Text: "a", Int: 1, Str: "b"}, "a"}, {api.Token{Kind: 2, Text: "a", Int: 1, Str: "b"}, "1"}, {api.Token{Kind: 3, Text: "a", Int: 1, Str: "b"}, `"b"`}, {api.Token{Kind: 4, Text: "a", Int: 1, Str: "b"}, "a"},
		{api.Token{Kind: 1, Text: "no name!"}, "no name!"}, {api.Token{Kind: 1}, ""}, {api.Token{Kind: 4, Text: ".."}, ".."},
	} {
		if got := Word(x.t); got != x.want {
			t.Errorf("P6.1: Word(%v) = %q, want %q", x.t, got, x.want)
		}
	}
}

func TestWordsLeadToTokens(t *testing.T) {
	source := rand.New(rand.NewSource(66))
	gaps := []string{" ", "\t", "\r", "\n", "  ", " // \"a\n", "\n//\n", "\t//// =\n\n", " //\xff\n"}
	parts := tokenParts()
	for range 20000 {
		s := wildText(source, parts, 30)
		l, _, e := Tokens(s)
		if e != api.OK {
			continue
		}
		again, line := "", 1
		want := slices.Clone(l)
		for i, token := range l {
			want[i].Line = line
			gap := gaps[source.Intn(len(gaps))]
			again += Word(token) + gap
			line += strings.Count(gap, "\n")
		}
		got, _, e := Tokens(again + "// end")
		if e != api.OK || !slices.Equal(got, want) {
			t.Fatalf("P6.2: the words of Tokens(%q) lead to %v, %v, want %v", s, got, e, want)
		}
	}
}
