package digest

import (
	"encoding/binary"
	"math/rand"
	"strings"
	"testing"
)

// hashOf returns a hash into which some strings were written.
func hashOf(pieces ...string) *Hash {
	h := New()
	for _, s := range pieces {
		h.Write(s)
	}
	return h
}

func TestHashOfOneString(t *testing.T) {
	if got := New().Sum(); got != want("") {
		t.Errorf("P4.1: the sum of a new hash is %s", got)
	}
	for _, s := range texts() {
		if got := hashOf(s).Sum(); got != want(s) {
			t.Errorf("P4.1: the sum of a hash of %d bytes is %s, want %s", len(s), got, want(s))
		}
	}
}

func TestHashOfEmptyStrings(t *testing.T) {
	if got := hashOf("", "", "").Sum(); got != want("") {
		t.Errorf("P4.1: the sum of three empty strings is %s", got)
	}
	for _, n := range []int{1, 55, 56, 63, 64, 65, 128, 200} {
		s := strings.Repeat("y", n)
		if got := hashOf("", s, "", "").Sum(); got != want(s) {
			t.Errorf("P4.2: the sum of %d bytes between empty strings is %s, want %s", n, got, want(s))
		}
	}
}

func TestTwoPieces(t *testing.T) {
	source := rand.New(rand.NewSource(41))
	for _, n := range []int{1, 2, 54, 55, 56, 57, 63, 64, 65, 119, 120, 127, 128, 129, 183, 184, 191, 192, 193, 260} {
		s := anyBytes(source, n)
		for cut := range n + 1 {
			if got := hashOf(s[:cut], s[cut:]).Sum(); got != want(s) {
				t.Errorf("P4.2: the sum of pieces of %d and %d bytes is %s, want %s", cut, n-cut, got, want(s))
			}
		}
	}
}

func TestManyPieces(t *testing.T) {
	source := rand.New(rand.NewSource(42))
	for _, size := range []int{1, 2, 3, 7, 55, 56, 63, 64, 65, 127, 128, 129} {
		h, written := New(), ""
		for range 40 {
			piece := anyBytes(source, size)
			h.Write(piece)
			written += piece
			if got := h.Sum(); got != want(written) {
				t.Errorf("P4.2: the sum behind %d bytes in pieces of %d is %s, want %s", len(written), size, got, want(written))
			}
		}
	}
	for range 300 {
		h, written := New(), ""
		for range source.Intn(12) {
			piece := anyBytes(source, source.Intn(2)*source.Intn(200))
			h.Write(piece)
			written += piece
		}
		if got := h.Sum(); got != want(written) {
			t.Errorf("P4.2: the sum of %d bytes in random pieces is %s, want %s", len(written), got, want(written))
		}
	}
}

func TestSumEndsNothing(t *testing.T) {
	for n := range 3 * blockSize {
		s := strings.Repeat("z", n)
		h := hashOf(s)
		if first, second := h.Sum(), h.Sum(); first != want(s) || second != first {
			t.Errorf("P4.1: two sums of a hash of %d bytes are %s and %s, want %s", n, first, second, want(s))
		}
		h.Write("and more")
		if got := h.Sum(); got != want(s+"and more") {
			t.Errorf("P4.1: the sum of what is written behind a sum of %d bytes is %s, want %s", n, got, want(s+"and more"))
		}
	}
}

func TestTwoHashesInTurn(t *testing.T) {
	source := rand.New(rand.NewSource(43))
	first, second := New(), New()
	writtenFirst, writtenSecond := "", ""
	for range 60 {
		piece, other := anyBytes(source, source.Intn(100)), anyBytes(source, source.Intn(100))
		first.Write(piece)
		second.Write(other)
		writtenFirst += piece
		writtenSecond += other
		if got := first.Sum(); got != want(writtenFirst) {
			t.Errorf("P4.1: the sum of the first hash behind %d bytes is %s, want %s", len(writtenFirst), got, want(writtenFirst))
		}
		if got := second.Sum(); got != want(writtenSecond) {
			t.Errorf("P4.1: the sum of the second hash behind %d bytes is %s, want %s", len(writtenSecond), got, want(writtenSecond))
		}
	}
	if got := New().Sum(); got != want("") {
		t.Errorf("P4.1: the sum of a hash that is new behind others is %s", got)
	}
}

func TestPadding(t *testing.T) {
	for _, length := range []uint64{0, 1, 54, 55, 56, 57, 63, 64, 65, 8191, 8192, 1 << 21, 1<<29 - 1, 1 << 29, 1<<29 + 55, 1<<29 + 56, 1<<31 - 1} {
		p := padding(length)
		if p[0] != 128 || strings.Trim(p[1:len(p)-8], "\x00") != "" {
			t.Errorf("P4.1: the padding of %d bytes is % x", length, p)
		}
		if (length+uint64(len(p)))%blockSize != 0 || len(p) < 9 || len(p) > blockSize+8 {
			t.Errorf("P4.1: the padding of %d bytes has %d", length, len(p))
		}
		if bits := binary.BigEndian.Uint64([]byte(p[len(p)-8:])); bits != 8*length {
			t.Errorf("P4.1: the padding of %d bytes ends with %d, want their number of bits %d", length, bits, 8*length)
		}
	}
}
