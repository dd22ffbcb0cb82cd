package wire

import (
	"encoding/binary"
	"math"
	"math/rand"
	"slices"
	"strings"
	"testing"

	"sederunt/api"
)

// bytesOf returns the string of some bytes.
func bytesOf(l ...byte) string { return string(l) }

// high returns n bytes 128 and then some others.
func high(n int, last ...byte) string {
	return strings.Repeat("\x80", n) + string(last)
}

// varintCase is a text and what a varint at its beginning is.
type varintCase struct {
	text string
	n    uint64
	size int
	err  api.Errno
}

// varintCases returns texts with and without a varint at their beginning.
func varintCases() []varintCase {
	return []varintCase{
		{bytesOf(0), 0, 1, api.OK}, {bytesOf(127), 127, 1, api.OK}, {bytesOf(128, 1), 128, 2, api.OK},
		{bytesOf(172, 2), 300, 2, api.OK}, {bytesOf(172, 2, 0), 300, 2, api.OK}, {bytesOf(0, 0), 0, 1, api.OK}, {bytesOf(5, 255), 5, 1, api.OK},
		{high(9, 1), 1 << 63, 10, api.OK}, {high(9, 1, 128, 0), 1 << 63, 10, api.OK},
		{strings.Repeat("\xff", 9) + "\x01", math.MaxUint64, 10, api.OK}, {strings.Repeat("\xff", 8) + "\x7f", 1<<63 - 1, 9, api.OK},

		{"", 0, 0, api.ErrEmpty}, {high(1), 0, 0, api.ErrEmpty}, {high(2), 0, 0, api.ErrEmpty}, {high(9), 0, 0, api.ErrEmpty},
		{strings.Repeat("\xff", 9), 0, 0, api.ErrEmpty}, {bytesOf(172), 0, 0, api.ErrEmpty},

		{high(10), 0, 0, api.ErrRange}, {high(11), 0, 0, api.ErrRange}, {high(10, 0), 0, 0, api.ErrRange}, {high(10, 1), 0, 0, api.ErrRange},
		{strings.Repeat("\xff", 100), 0, 0, api.ErrRange}, {high(9, 2), 0, 0, api.ErrRange}, {high(9, 3), 0, 0, api.ErrRange},
		{high(9, 127), 0, 0, api.ErrRange}, {strings.Repeat("\xff", 9) + "\x02", 0, 0, api.ErrRange},

		{bytesOf(172, 130, 0), 0, 0, api.ErrSyntax}, {high(1, 0), 0, 0, api.ErrSyntax}, {high(1, 0, 7), 0, 0, api.ErrSyntax},
		{high(8, 0), 0, 0, api.ErrSyntax}, {high(9, 0), 0, 0, api.ErrSyntax}, {strings.Repeat("\xff", 9) + "\x00\x01", 0, 0, api.ErrSyntax},
	}
}

func TestGet(t *testing.T) {
	for _, x := range varintCases() {
		n, size, e := Get(x.text)
		if n != x.n || size != x.size || e != x.err {
			t.Errorf("P3.1: Get(% x) = %d, %d, %v, want %d, %d, %v", x.text, n, size, e, x.n, x.size, x.err)
		}
	}
}

// numbers returns numbers of all lengths, among them those next to each length.
func numbers() []uint64 {
	l := []uint64{0, 1, 2, 300, math.MaxUint64, math.MaxUint64 - 1}
	for i := range 64 {
		p := uint64(1) << i
		l = append(l, p-1, p, p+1, p|0x5555)
	}
	source := rand.New(rand.NewSource(3))
	for range 2000 {
		l = append(l, source.Uint64()>>source.Intn(64))
	}
	return l
}

func TestPut(t *testing.T) {
	for _, n := range numbers() {
		want := string(binary.AppendUvarint(nil, n))
		if got := Put(n); got != want {
			t.Errorf("P3.1: Put(%d) = % x, want % x", n, got, want)
		}
		for _, behind := range []string{"", "\x00", "\xff", want} {
			back, size, e := Get(want + behind)
			if back != n || size != len(want) || e != api.OK {
				t.Errorf("P3.2: Get(Put(%d) + % x) = %d, %d, %v", n, behind, back, size, e)
			}
		}
		for cut := range len(want) {
			if back, size, e := Get(want[:cut]); back != 0 || size != 0 || e != api.ErrEmpty {
				t.Errorf("P3.1: Get(%d bytes of the varint of %d) = %d, %d, %v, want ErrEmpty", cut, n, back, size, e)
			}
		}
	}
}

func TestCodes(t *testing.T) {
	long := strings.Repeat("x", 300)
	for _, x := range []struct{ what, got, want string }{
		{"300", Put(300), bytesOf(172, 2)},
		{"the string ab", PutString("ab"), bytesOf(2, 97, 98)},
		{"the empty string", PutString(""), bytesOf(0)},
		{"a string that is no text", PutString("\x00\xff"), bytesOf(2, 0, 255)},
		{"a string of two runes", PutString("éß"), "\x04éß"},
		{"a string of 127 bytes", PutString(long[:127]), "\x7f" + long[:127]},
		{"a string of 128 bytes", PutString(long[:128]), "\x80\x01" + long[:128]},
		{"a string of 300 bytes", PutString(long), "\xac\x02" + long},
		{"no strings", PutList(nil), bytesOf(0)},
		{"an empty list of strings", PutList([]string{}), bytesOf(0)},
		{"ab and the empty string", PutList([]string{"ab", ""}), bytesOf(2, 2, 97, 98, 0)},
		{"the empty string in a list", PutList([]string{""}), bytesOf(1, 0)},
		{"a long string in a list", PutList([]string{long}), "\x01\xac\x02" + long},
		{"130 empty strings", PutList(make([]string, 130)), "\x82\x01" + strings.Repeat("\x00", 130)},
		{"no integers", PutInts(nil), bytesOf(0)},
		{"an empty list of integers", PutInts([]int{}), bytesOf(0)},
		{"-1 and 2", PutInts([]int{-1, 2}), bytesOf(2, 1, 4)},
		{"integers next to 0", PutInts([]int{0, -1, 1, -2, 2}), bytesOf(5, 0, 1, 2, 3, 4)},
		{"integers next to a length", PutInts([]int{63, -64, 64, -65}), bytesOf(4, 126, 127, 128, 1, 129, 1)},
		{"the greatest integer", PutInts([]int{math.MaxInt64}), "\x01\xfe" + strings.Repeat("\xff", 8) + "\x01"},
		{"the least integer", PutInts([]int{math.MinInt64}), "\x01" + strings.Repeat("\xff", 9) + "\x01"},
		{"130 zeros", PutInts(make([]int, 130)), "\x82\x01" + strings.Repeat("\x00", 130)},
	} {
		if x.got != x.want {
			t.Errorf("P3.1: the code of %s is % x, want % x", x.what, x.got, x.want)
		}
	}
}

// partCases returns the texts that are too short or wrong for all codes with a length in front.
func partCases() []varintCase {
	var l []varintCase
	for _, x := range varintCases() {
		if x.err != api.OK {
			l = append(l, x)
		}
	}
	for _, s := range []string{"\x01", "\x7f", "\x80\x01", high(9, 1), strings.Repeat("\xff", 8) + "\x7f", strings.Repeat("\xff", 9) + "\x01"} {
		l = append(l, varintCase{text: s, err: api.ErrEmpty})
	}
	return l
}

func TestGetString(t *testing.T) {
	for _, x := range []struct {
		text, want string
		size       int
	}{
		{"\x00", "", 1}, {"\x00abc", "", 1}, {"\x02ab", "ab", 3}, {"\x02abc", "ab", 3}, {"\x02\x00\xff", "\x00\xff", 3},
		{"\x80\x01" + strings.Repeat("y", 129), strings.Repeat("y", 128), 130},
	} {
		got, size, e := GetString(x.text)
		if got != x.want || size != x.size || e != api.OK {
			t.Errorf("P3.1: GetString(% x) = % x, %d, %v, want % x, %d", x.text, got, size, e, x.want, x.size)
		}
	}
	for _, x := range append(partCases(), []varintCase{
		{text: "\x01", err: api.ErrEmpty}, {text: "\x03ab", err: api.ErrEmpty},
		{text: "\x80\x01" + strings.Repeat("y", 127), err: api.ErrEmpty},
		{text: high(9, 1) + strings.Repeat("y", 200), err: api.ErrEmpty},
		{text: strings.Repeat("\xff", 9) + "\x01ab", err: api.ErrEmpty},
	}...) {
		if got, size, e := GetString(x.text); got != "" || size != 0 || e != x.err {
			t.Errorf("P3.1: GetString(% x) = %q, %d, %v, want %v", x.text, got, size, e, x.err)
		}
	}
}

func TestGetList(t *testing.T) {
	for _, x := range []struct {
		text string
		want []string
		size int
	}{
		{"\x00", nil, 1}, {"\x00\x80", nil, 1}, {"\x01\x00", []string{""}, 2}, {"\x02\x02ab\x00", []string{"ab", ""}, 5},
		{"\x02\x02ab\x00\xff", []string{"ab", ""}, 5}, {"\x01\x01\x00\x80\x00", []string{"\x00"}, 3},
	} {
		got, size, e := GetList(x.text)
		if !slices.Equal(got, x.want) || size != x.size || e != api.OK {
			t.Errorf("P3.1: GetList(% x) = %q, %d, %v, want %q, %d", x.text, got, size, e, x.want, x.size)
		}
	}
	for _, x := range append(partCases(), []varintCase{
		{text: "\x02\x00", err: api.ErrEmpty}, {text: "\x02\x02ab", err: api.ErrEmpty}, {text: "\x02\x03ab", err: api.ErrEmpty},
		{text: "\x02\x01a\x80\x00", err: api.ErrSyntax}, {text: "\x02\x81\x00\x05", err: api.ErrSyntax},
		{text: "\x02\x00" + high(9, 2), err: api.ErrRange}, {text: "\x02" + high(10) + "\x80\x00", err: api.ErrRange},
		{text: "\x03\x01a\x05b\x80\x00", err: api.ErrEmpty}, {text: "\x82\x00\x00\x00", err: api.ErrSyntax},
		{text: strings.Repeat("\xff", 9) + "\x01" + strings.Repeat("\x00", 100000), err: api.ErrEmpty},
		{text: strings.Repeat("\xff", 9) + "\x01" + strings.Repeat("\x00", 1000) + "\x80\x00", err: api.ErrSyntax},
	}...) {
		if got, size, e := GetList(x.text); len(got) != 0 || size != 0 || e != x.err {
			t.Errorf("P3.1: GetList(% x) = %q, %d, %v, want %v", x.text, got, size, e, x.err)
		}
	}
}

func TestGetInts(t *testing.T) {
	for _, x := range []struct {
		text string
		want []int
		size int
	}{
		{"\x00", nil, 1}, {"\x00\x80", nil, 1}, {"\x01\x00", []int{0}, 2}, {"\x02\x01\x04", []int{-1, 2}, 3}, {"\x02\x01\x04\xff", []int{-1, 2}, 3},
		{"\x01" + strings.Repeat("\xff", 9) + "\x01\x00", []int{math.MinInt64}, 11},
		{"\x01\xfe" + strings.Repeat("\xff", 8) + "\x01", []int{math.MaxInt64}, 11},
		{"\x02\x80\x01\x81\x01", []int{64, -65}, 5},
	} {
		got, size, e := GetInts(x.text)
		if !slices.Equal(got, x.want) || size != x.size || e != api.OK {
			t.Errorf("P3.1: GetInts(% x) = %d, %d, %v, want %d, %d", x.text, got, size, e, x.want, x.size)
		}
	}
	for _, x := range append(partCases(), []varintCase{
		{text: "\x02\x00", err: api.ErrEmpty}, {text: "\x02\x00\x80", err: api.ErrEmpty}, {text: "\x02\x00\x80\x00", err: api.ErrSyntax},
		{text: "\x02\x00" + high(9, 2), err: api.ErrRange}, {text: "\x02" + high(10) + "\x80\x00", err: api.ErrRange},
		{text: "\x03\x00\x80\x00\x80", err: api.ErrSyntax}, {text: "\x82\x00\x00\x00", err: api.ErrSyntax},
		{text: strings.Repeat("\xff", 9) + "\x01" + strings.Repeat("\x00", 100000), err: api.ErrEmpty},
	}...) {
		if got, size, e := GetInts(x.text); len(got) != 0 || size != 0 || e != x.err {
			t.Errorf("P3.1: GetInts(% x) = %d, %d, %v, want %v", x.text, got, size, e, x.err)
		}
	}
}

// words goes through all strings of at most n bytes of an alphabet.
func words(alphabet string, n int) []string {
	all := []string{""}
	for begin, length := 0, 0; length < n; length++ {
		end := len(all)
		for _, s := range all[begin:end] {
			for i := range len(alphabet) {
				all = append(all, s+alphabet[i:i+1])
			}
		}
		begin = end
	}
	return all
}

// wordsWithin returns short words, some of them behind bytes that almost fill a varint.
func wordsWithin() []string {
	short := words("\x00\x01\x02\x03\x7f\x80\x81\xff", 5)
	all := slices.Clone(short)
	for n := 6; n <= 10; n++ {
		for _, s := range short[:600] {
			all = append(all, high(n)+s, strings.Repeat("\xff", n)+s, "\x01"+high(n)+s, "\x02\x01"+high(n)+s)
		}
	}
	return all
}

func TestWhatIsReadIsACode(t *testing.T) {
	for _, s := range wordsWithin() {
		if n, size, e := Get(s); e == api.OK && Put(n) != s[:size] {
			t.Errorf("P3.1: Get(% x) = %d, %d, but Put(%d) = % x", s, n, size, n, Put(n))
		}
		if v, size, e := GetString(s); e == api.OK && PutString(v) != s[:size] {
			t.Errorf("P3.1: GetString(% x) = %q, %d, but its code is % x", s, v, size, PutString(v))
		}
		if l, size, e := GetList(s); e == api.OK && PutList(l) != s[:size] {
			t.Errorf("P3.1: GetList(% x) = %q, %d, but its code is % x", s, l, size, PutList(l))
		}
		if l, size, e := GetInts(s); e == api.OK && PutInts(l) != s[:size] {
			t.Errorf("P3.1: GetInts(% x) = %d, %d, but its code is % x", s, l, size, PutInts(l))
		}
	}
}

// varintOf returns the size and the error of the varint at the beginning of a text, as the chapter words them.
func varintOf(s string) (int, api.Errno) {
	last := slices.IndexFunc([]byte(s), func(b byte) bool { return b < 128 })
	switch {
	case last < 0 && len(s) < 10:
		return 0, api.ErrEmpty
	case last < 0 || last > 9 || last == 9 && s[9] > 1:
		return 0, api.ErrRange
	case last > 0 && s[last] == 0:
		return 0, api.ErrSyntax
	}
	return last + 1, api.OK
}

// stringOf returns the size and the error of the string at the beginning of a text.
func stringOf(s string) (int, api.Errno) {
	size, e := varintOf(s)
	if e != api.OK {
		return 0, e
	}
	length, _ := binary.Uvarint([]byte(s))
	if uint64(len(s)-size) < length {
		return 0, api.ErrEmpty
	}
	return size + int(length), api.OK
}

// listOf returns the size and the error of the list at the beginning of a text.
func listOf(s string, part func(string) (int, api.Errno)) (int, api.Errno) {
	end, e := varintOf(s)
	if e != api.OK {
		return 0, e
	}
	length, _ := binary.Uvarint([]byte(s))
	for range length {
		size, e := part(s[end:])
		if e != api.OK {
			return 0, e
		}
		end += size
	}
	return end, api.OK
}

func TestErrors(t *testing.T) {
	for _, s := range wordsWithin() {
		wantSize, want := varintOf(s)
		if n, size, e := Get(s); size != wantSize || e != want || e != api.OK && n != 0 {
			t.Errorf("P3.1: Get(% x) = %d, %d, %v, want %d, %v", s, n, size, e, wantSize, want)
		}
		wantSize, want = stringOf(s)
		if v, size, e := GetString(s); size != wantSize || e != want || e != api.OK && v != "" {
			t.Errorf("P3.1: GetString(% x) = %q, %d, %v, want %d, %v", s, v, size, e, wantSize, want)
		}
		wantSize, want = listOf(s, stringOf)
		if l, size, e := GetList(s); size != wantSize || e != want || e != api.OK && len(l) != 0 {
			t.Errorf("P3.1: GetList(% x) = %q, %d, %v, want %d, %v", s, l, size, e, wantSize, want)
		}
		wantSize, want = listOf(s, varintOf)
		if l, size, e := GetInts(s); size != wantSize || e != want || e != api.OK && len(l) != 0 {
			t.Errorf("P3.1: GetInts(% x) = %d, %d, %v, want %d, %v", s, l, size, e, wantSize, want)
		}
	}
}

// someInts returns integers of all sizes and signs.
func someInts() []int {
	l := []int{0, math.MinInt64, math.MaxInt64}
	for i := range 63 {
		l = append(l, 1<<i, -1<<i, 1<<i-1, -1<<i-1)
	}
	return l
}

func TestIntegersAreReadBack(t *testing.T) {
	for _, n := range someInts() {
		code := PutInts([]int{n})
		if want := string(binary.AppendVarint([]byte{1}, int64(n))); code != want {
			t.Errorf("P3.1: PutInts(%d) = % x, want % x", n, code, want)
		}
		if r := NewReader(code[1:]); r.Int() != n || r.End() != api.OK {
			t.Errorf("P3.2: a reader does not read the integer %d", n)
		}
	}
	for n := -40000; n <= 40000; n += 7 {
		if l, size, e := GetInts(PutInts([]int{n, -n}) + "x"); e != api.OK || !slices.Equal(l, []int{n, -n}) || size != len(PutInts([]int{n, -n})) {
			t.Errorf("P3.2: GetInts of the code of %d and %d: %d, %d, %v", n, -n, l, size, e)
		}
	}
}

// randomList returns a list whose parts are made by a function.
func randomList[T any](source *rand.Rand, part func() T) []T {
	var l []T
	for range source.Intn(4) * source.Intn(80) {
		l = append(l, part())
	}
	return l
}

func TestListsAreReadBack(t *testing.T) {
	source := rand.New(rand.NewSource(33))
	anyString := func() string {
		b := make([]byte, source.Intn(3)*source.Intn(150))
		source.Read(b)
		return string(b)
	}
	anyInt := func() int { return int(source.Uint64()) >> source.Intn(64) }
	for range 500 {
		behind, text := anyString(), anyString()
		if back, size, e := GetString(PutString(text) + behind); back != text || size != len(PutString(text)) || e != api.OK {
			t.Fatalf("P3.2: GetString of the code of %q and %q: %q, %d, %v", text, behind, back, size, e)
		}
		list := randomList(source, anyString)
		if back, size, e := GetList(PutList(list) + behind); !slices.Equal(back, list) || size != len(PutList(list)) || e != api.OK {
			t.Fatalf("P3.2: GetList of the code of %q and %q: %q, %d, %v", list, behind, back, size, e)
		}
		ints := randomList(source, anyInt)
		if back, size, e := GetInts(PutInts(ints) + behind); !slices.Equal(back, ints) || size != len(PutInts(ints)) || e != api.OK {
			t.Fatalf("P3.2: GetInts of the code of %d and %q: %d, %d, %v", ints, behind, back, size, e)
		}
	}
}

// noPrefix fails if two of the codes are equal, or one is a proper prefix of another one.
func noPrefix(t *testing.T, kind string, codes []string) {
	t.Helper()
	slices.Sort(codes)
	for i := 1; i < len(codes); i++ {
		if strings.HasPrefix(codes[i], codes[i-1]) {
			t.Errorf("P3.2: of the codes of two different %s, one begins with the other: % x and % x", kind, codes[i-1], codes[i])
		}
	}
}

// lists returns all lists of at most n of some parts.
func lists[T any](parts []T, n int) [][]T {
	all := [][]T{nil}
	for begin, length := 0, 0; length < n; length++ {
		end := len(all)
		for _, l := range all[begin:end] {
			for _, part := range parts {
				all = append(all, append(slices.Clone(l), part))
			}
		}
		begin = end
	}
	return all
}

// codes returns the codes of some values.
func codes[T any](values []T, put func(T) string) []string {
	var l []string
	for _, v := range values {
		l = append(l, put(v))
	}
	return l
}

func TestNoCodeIsAPrefix(t *testing.T) {
	different := numbers()
	slices.Sort(different)
	noPrefix(t, "numbers", codes(slices.Compact(different), Put))

	strange := words("\x00\x01\x02a\x80", 4)
	noPrefix(t, "strings", codes(append(strange, strings.Repeat("\x00", 128), strings.Repeat("\x80", 300)), PutString))
	noPrefix(t, "lists of strings", codes(lists([]string{"", "\x00", "\x01", "\x01\x00", "\x00\x01\x00"}, 5), PutList))
	noPrefix(t, "lists of integers", codes(lists([]int{0, -1, 1, -64, 64, math.MinInt64}, 5), PutInts))
}

func TestNothingIsChangedOrShared(t *testing.T) {
	words := []string{"ab", "", "c"}
	ints := []int{-1, 300, 2}
	wordCode, intCode := PutList(words), PutInts(ints)
	if !slices.Equal(words, []string{"ab", "", "c"}) || !slices.Equal(ints, []int{-1, 300, 2}) {
		t.Errorf("P3.1: an argument was changed: %q, %d", words, ints)
	}
	firstWords, _, _ := GetList(wordCode)
	firstInts, _, _ := GetInts(intCode)
	firstWords[0], firstInts[0] = "spoiled", 7
	secondWords, _, _ := GetList(wordCode)
	secondInts, _, _ := GetInts(intCode)
	if !slices.Equal(secondWords, words) || !slices.Equal(secondInts, ints) {
		t.Errorf("P3.1: two results share memory: %q, %d", secondWords, secondInts)
	}
}
