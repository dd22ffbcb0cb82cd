package lexer

import (
	"math/rand"
	"slices"
	"strings"
	"testing"
)

// plainLines is Lines, byte by byte.
func plainLines(s string) []string {
	var l []string
	line := ""
	for _, c := range []byte(s) {
		if c == '\n' {
			l = append(l, line)
			line = ""
			continue
		}
		line += string([]byte{c})
	}
	if line != "" {
		l = append(l, line)
	}
	return l
}

// plainFields is Fields, byte by byte.
func plainFields(s string) []string {
	var l []string
	inside := false
	for _, c := range []byte(s) {
		switch {
		case c == ' ' || c == '\t' || c == '\r' || c == '\n':
			inside = false
		case inside:
			l[len(l)-1] += string([]byte{c})
		default:
			l = append(l, string([]byte{c}))
			inside = true
		}
	}
	return l
}

// checkParts compares the lines and the fields of a text with those that are found byte by byte.
func checkParts(t *testing.T, s string) {
	t.Helper()
	lines := Lines(s)
	if want := plainLines(s); !slices.Equal(lines, want) {
		t.Fatalf("P6.1: Lines(%q) = %q, want %q", s, lines, want)
	}
	joined := ""
	for _, line := range lines {
		joined += line + "\n"
	}
	if (s == "" || strings.HasSuffix(s, "\n")) && joined != s {
		t.Fatalf("P6.2: the lines of %q are those of %q", s, joined)
	}
	if got, want := Fields(s), plainFields(s); !slices.Equal(got, want) {
		t.Fatalf("P6.1: Fields(%q) = %q, want %q", s, got, want)
	}
}

func TestLines(t *testing.T) {
	for _, x := range []struct {
		s    string
		want []string
	}{
		{"", nil}, {"a", []string{"a"}}, {"\n", []string{""}}, {"\n\n", []string{"", ""}}, {"a\n", []string{"a"}}, {"a\n\n", []string{"a", ""}}, {"a\n\nb", []string{"a", "", "b"}}, {"\na", []string{"", "a"}}, {" ", []string{" "}}, {"a\n ", []string{"a", " "}},
		{"a\r\nb\r\n", []string{"a\r", "b\r"}}, {"a\rb", []string{"a\rb"}}, {"a\n\r", []string{"a", "\r"}}, {"\xff\n\x00", []string{"\xff", "\x00"}}, {"// a\n\"b", []string{"// a", "\"b"}}, {"a\vb\fc\u2028d\u0085e", []string{"a\vb\fc\u2028d\u0085e"}},
	} {
		if got := Lines(x.s); !slices.Equal(got, x.want) {
			t.Errorf("P6.1: Lines(%q) = %q, want %q", x.s, got, x.want)
		}
		checkParts(t, x.s)
	}
	if got := Lines(strings.Repeat("\n", 100000)); len(got) != 100000 {
		t.Errorf("P6.1: Lines of a long text: %d", len(got))
	}
}

func TestFields(t *testing.T) {
	for _, x := range []struct {
		s    string
		want []string
	}{
		{"", nil}, {" ", nil}, {" \t\r\n", nil}, {"a", []string{"a"}}, {" a ", []string{"a"}}, {"a b", []string{"a", "b"}}, {"a\tb\rc\nd", []string{"a", "b", "c", "d"}}, {"a \t\r\n b\n", []string{"a", "b"}},
		{"add site s { a, b };", []string{"add", "site", "s", "{", "a,", "b", "};"}}, {"a // b", []string{"a", "//", "b"}}, {`"a b"`, []string{`"a`, `b"`}}, {"1/10", []string{"1/10"}},
		{"a\vb\fc", []string{"a\vb\fc"}}, {"a\u00a0b\u2003c\u0085d\u3000e", []string{"a\u00a0b\u2003c\u0085d\u3000e"}}, {"a\x85b\xa0c", []string{"a\x85b\xa0c"}}, {"\x00 \xff", []string{"\x00", "\xff"}},
		{"\u0120 \u0109\u010a \u010d", []string{"\u0120", "\u0109\u010a", "\u010d"}}, {"\ufffd\ufffd \ufffd", []string{"\ufffd\ufffd", "\ufffd"}},
	} {
		if got := Fields(x.s); !slices.Equal(got, x.want) {
			t.Errorf("P6.1: Fields(%q) = %q, want %q", x.s, got, x.want)
		}
		checkParts(t, x.s)
	}
}

func TestPartsOfShortTexts(t *testing.T) {
	for i := range 1 << 16 {
		checkParts(t, string([]byte{byte(i >> 8), byte(i)}))
	}
	for i := range 1 << 8 {
		checkParts(t, "a"+string([]byte{byte(i)})+"b")
	}
	shortTexts("a\n \t\r\xc2", 6, func(s string) { checkParts(t, s) })
	source := rand.New(rand.NewSource(68))
	for range 500 {
		b := make([]byte, source.Intn(300))
		source.Read(b)
		checkParts(t, string(b))
	}
}
