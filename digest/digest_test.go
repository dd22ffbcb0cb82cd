package digest

import (
	"crypto/sha256"
	"encoding/hex"
	"math/big"
	"math/rand"
	"slices"
	"strings"
	"testing"
)

// anyBytes returns a string of n random bytes.
func anyBytes(source *rand.Rand, n int) string {
	b := make([]byte, n)
	source.Read(b)
	return string(b)
}

// want returns the digits of the sum of a string, computed by the library of Go.
func want(s string) string {
	sum := sha256.Sum256([]byte(s))
	return hex.EncodeToString(sum[:])
}

// texts returns strings of all lengths up to a few blocks, and some longer ones.
func texts() []string {
	source := rand.New(rand.NewSource(4))
	var l []string
	for n := range 5*blockSize + 2 {
		l = append(l, strings.Repeat("\x00", n), strings.Repeat("\xff", n), strings.Repeat("\x80", n), anyBytes(source, n))
	}
	for _, n := range []int{1000, 4095, 4096, 8191, 8192, 8193, 65535, 65536, 1 << 21} {
		l = append(l, anyBytes(source, n))
	}
	return append(l, "é and ß", "a\nb", strings.Repeat("abc", 1000))
}

func TestExamples(t *testing.T) {
	for _, x := range []struct{ s, want string }{
		{"", "e3b0c44298fc1c149afbf4c8996fb92427ae41e4649b934ca495991b7852b855"},
		{"abc", "ba7816bf8f01cfea414140de5dae2223b00361a396177a9cb410ff61f20015ad"},
		{"abcdbcdecdefdefgefghfghighijhijkijkljklmklmnlmnomnopnopq", "248d6a61d20638b8e5c026930c3e6039a33ce45964ff2167f6ecedd419db06c1"},
		{strings.Repeat("a", 1000000), "cdc76e5c9914fb9281a1c7e284d73e67f1809a48a497200e046d39ccc7112cd0"},
	} {
		if got := Hex(x.s); got != x.want {
			t.Errorf("P4.1: Hex of %d bytes = %s, want %s", len(x.s), got, x.want)
		}
		if got := Short(x.s); got != x.want[:16] {
			t.Errorf("P4.1: Short of %d bytes = %s, want %s", len(x.s), got, x.want[:16])
		}
	}
	if sum := Sum("abc"); sum[0] != 0xba || sum[1] != 0x78 || sum[31] != 0xad {
		t.Errorf("P4.1: Sum(abc) = % x", sum)
	}
}

func TestSumOfEveryLength(t *testing.T) {
	for _, s := range texts() {
		sum, digits := Sum(s), want(s)
		if sum != sha256.Sum256([]byte(s)) {
			t.Errorf("P4.1: Sum of %d bytes = %x, want %s", len(s), sum, digits)
		}
		if got := Hex(s); got != digits {
			t.Errorf("P4.1: Hex of %d bytes = %s, want %s", len(s), got, digits)
		}
		if got := Short(s); got != digits[:16] {
			t.Errorf("P4.1: Short of %d bytes = %s, want %s", len(s), got, digits[:16])
		}
	}
}

func TestOf(t *testing.T) {
	long := strings.Repeat("x", 300)
	for _, x := range []struct {
		l    []string
		code string
	}{
		{nil, "\x00"}, {[]string{}, "\x00"}, {[]string{""}, "\x01\x00"}, {[]string{"", ""}, "\x02\x00\x00"},
		{[]string{"abc"}, "\x01\x03abc"}, {[]string{"ab", "c"}, "\x02\x02ab\x01c"}, {[]string{"a", "bc"}, "\x02\x01a\x02bc"},
		{[]string{"abc", ""}, "\x02\x03abc\x00"}, {[]string{"", "abc"}, "\x02\x00\x03abc"}, {[]string{"\x01\x03abc"}, "\x01\x05\x01\x03abc"},
		{[]string{long, "\x80\xff"}, "\x02\xac\x02" + long + "\x02\x80\xff"}, {make([]string, 130), "\x82\x01" + strings.Repeat("\x00", 130)},
	} {
		before := slices.Clone(x.l)
		if got := Of(x.l...); got != want(x.code) {
			t.Errorf("P4.1: Of(%q) = %s, want the sum of % x", x.l, got, x.code)
		}
		if !slices.Equal(x.l, before) {
			t.Errorf("P4.1: Of changes its strings %q to %q", before, x.l)
		}
	}
	if Of() != want("\x00") || Of("ab", "c") != want("\x02\x02ab\x01c") {
		t.Errorf("P4.1: Of of strings that are written one by one: %s, %s", Of(), Of("ab", "c"))
	}
}

// fraction returns the first 32 bits of the fractional part of a root of a prime.
func fraction(prime, root int64) uint32 {
	scaled := new(big.Int).Lsh(big.NewInt(prime), uint(32*root))
	// The greatest x whose power is at most the scaled prime is the integer part of 2^32 times the root.
	low, high := big.NewInt(0), big.NewInt(1<<40)
	for new(big.Int).Sub(high, low).Cmp(big.NewInt(1)) > 0 {
		middle := new(big.Int).Rsh(new(big.Int).Add(low, high), 1)
		if new(big.Int).Exp(middle, big.NewInt(root), nil).Cmp(scaled) <= 0 {
			low = middle
		} else {
			high = middle
		}
	}
	return uint32(low.Uint64())
}

func TestConstants(t *testing.T) {
	index := 0
	for p := int64(2); index < len(cubeRoots); p++ {
		if !big.NewInt(p).ProbablyPrime(0) {
			continue
		}
		if got := cubeRoots[index]; got != fraction(p, 3) {
			t.Errorf("P4.1: K(%d) = %08x, want %08x", index, got, fraction(p, 3))
		}
		if index < len(squareRoots) && squareRoots[index] != fraction(p, 2) {
			t.Errorf("P4.1: H(%d) = %08x, want %08x", index, squareRoots[index], fraction(p, 2))
		}
		index++
	}
	if cubeRoots[0] != 0x428a2f98 || squareRoots[0] != 0x6a09e667 {
		t.Errorf("P4.1: K(0) = %08x, H(0) = %08x", cubeRoots[0], squareRoots[0])
	}
}
