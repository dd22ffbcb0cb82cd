package digest

import (
	"hash/crc32"
	"math/rand"
	"strings"
	"testing"
)

// crcBitByBit returns the check sum of a string, as the chapter words it.
func crcBitByBit(s string) uint32 {
	register := uint32(0xffffffff)
	for _, b := range []byte(s) {
		register ^= uint32(b)
		for range 8 {
			out := register & 1
			register >>= 1
			if out == 1 {
				register ^= 0xedb88320
			}
		}
	}
	return ^register
}

func TestCrc(t *testing.T) {
	for _, x := range []struct {
		s    string
		want uint32
	}{
		{"123456789", 0xcbf43926}, {"", 0}, {"a", 0xe8b7be43}, {"abc", 0x352441c2}, {"\x00", 0xd202ef8d}, {"\xff", 0xff000000},
		{"\x00\x00\x00\x00", 0x2144df1c}, {"\xff\xff\xff\xff", 0xffffffff}, {"The quick brown fox jumps over the lazy dog", 0x414fa339},
	} {
		if got := Crc(x.s); got != x.want {
			t.Errorf("P4.1: Crc(%q) = %08x, want %08x", x.s, got, x.want)
		}
	}
	for _, s := range texts() {
		if got := Crc(s); got != crcBitByBit(s) || got != crc32.ChecksumIEEE([]byte(s)) {
			t.Errorf("P4.1: Crc of %d bytes = %08x, want %08x", len(s), got, crcBitByBit(s))
		}
	}
	for b := range 256 {
		for _, s := range []string{string([]byte{byte(b)}), string([]byte{17, byte(b)}), string([]byte{byte(b), 200})} {
			if got := Crc(s); got != crcBitByBit(s) {
				t.Errorf("P4.1: Crc(%q) = %08x, want %08x", s, got, crcBitByBit(s))
			}
		}
	}
}

// xor returns the xor of two strings of the same length.
func xor(s, t string) string {
	b := []byte(s)
	for i := range b {
		b[i] ^= t[i]
	}
	return string(b)
}

// change returns a string of n bytes that contains the bits of a pattern from a position on.
// Bits are counted in the order in which they leave the register: the lowest one of each byte is the first one.
func change(n, position int, pattern uint32) string {
	b := make([]byte, n)
	for i := range 32 {
		if pattern>>i&1 == 1 {
			b[(position+i)/8] |= 1 << ((position + i) % 8)
		}
	}
	return string(b)
}

func TestChangesWithin32Bits(t *testing.T) {
	source := rand.New(rand.NewSource(44))
	for _, n := range []int{4, 5, 6, 8, 9, 64, 100} {
		s := anyBytes(source, n)
		for position := range 8*n - 31 {
			patterns := []uint32{1, 1 << 31, 1<<31 | 1, 0xffffffff, 0xedb88320, 0xdb710641, 0x04c11db7, 0x80000000 | source.Uint32()>>source.Intn(32)}
			for range 20 {
				patterns = append(patterns, 1|source.Uint32()>>source.Intn(32))
			}
			for _, pattern := range patterns {
				if changed := xor(s, change(n, position, pattern)); Crc(changed) == Crc(s) {
					t.Errorf("P4.2: %d bytes have the same check sum when %08x changes them from bit %d on", n, pattern, position)
				}
			}
		}
	}
}

func TestSmallChanges(t *testing.T) {
	for pattern := uint32(1); pattern < 1<<16; pattern++ {
		for _, s := range []string{"ab", "\x00\x00"} {
			if changed := xor(s, change(2, 0, pattern)); Crc(changed) == Crc(s) {
				t.Errorf("P4.2: %q has the same check sum as %q", s, changed)
			}
		}
	}
}

// rank returns how many of some numbers are independent under xor.
func rank(numbers []uint32) int {
	var leading [32]uint32
	n := 0
	for _, x := range numbers {
		for i := 31; i >= 0 && x != 0; i-- {
			if x>>i&1 == 0 {
				continue
			}
			if leading[i] == 0 {
				leading[i] = x
				n++
				break
			}
			x ^= leading[i]
		}
	}
	return n
}

// By the law of the xor, the check sum changes by the xor of what the single bits change it by.
// If these are independent, then each of the 2^32 - 1 changes within 32 bits changes it.
func TestNeighbouringBitsAreIndependent(t *testing.T) {
	for _, n := range []int{4, 5, 12, 70} {
		s := strings.Repeat("\x00", n)
		for position := range 8*n - 31 {
			var single []uint32
			for i := range 32 {
				single = append(single, Crc(change(n, position, 1<<i))^Crc(s))
			}
			if got := rank(single); got != 32 {
				t.Errorf("P4.2: of the 32 bits from bit %d on in %d bytes, only %d are independent", position, n, got)
			}
		}
	}
}

func TestCrcOfTheXorOfThree(t *testing.T) {
	source := rand.New(rand.NewSource(45))
	for n := range 300 {
		first, second, third := anyBytes(source, n), anyBytes(source, n), anyBytes(source, n)
		zeros, ones := strings.Repeat("\x00", n), strings.Repeat("\xff", n)
		for _, l := range [][3]string{{first, second, third}, {first, first, second}, {first, zeros, ones}, {zeros, zeros, zeros}, {ones, ones, first}} {
			got, all := Crc(xor(xor(l[0], l[1]), l[2])), Crc(l[0])^Crc(l[1])^Crc(l[2])
			if got != all {
				t.Errorf("P4.2: the check sum of the xor of three strings of %d bytes is %08x, the xor of their check sums %08x", n, got, all)
			}
		}
	}
}
