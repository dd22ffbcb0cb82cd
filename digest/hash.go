package digest

// Hash computes the sum of a string that is written in pieces.
type Hash struct {
	state [8]uint32
	// block begins with the last length % blockSize bytes of what was written; the state contains the blocks before it.
	block  [blockSize]byte
	length uint64
}

// New returns a hash of the empty string.
func New() *Hash { return &Hash{state: squareRoots} }

// Write appends a string to what has been written.
func (h *Hash) Write(s string) {
	for len(s) > 0 {
		n := copy(h.block[h.length%blockSize:], s)
		s = s[n:]
		h.length += uint64(n)
		if h.length%blockSize == 0 {
			h.state = compress(h.state, h.block)
		}
	}
}

// Sum returns the digits of the sum of all that has been written so far.
func (h *Hash) Sum() string { return digits(h.finish()) }

// finish returns the sum of all that has been written so far.
func (h *Hash) finish() [32]byte {
	// The padding goes into a copy, because further strings can be written behind what is there.
	padded := *h
	padded.Write(padding(h.length))
	var sum [32]byte
	for i := range sum {
		sum[i] = byte(padded.state[i/4] >> (24 - i%4*8))
	}
	return sum
}

// padding returns what is appended to a string of some length in bytes before its last block.
func padding(length uint64) string {
	// The difference may wrap around: 2^64 is a multiple of the size of a block.
	zeros := (lengthStart - 1 - length) % blockSize
	p := make([]byte, 1+zeros, 2*blockSize)
	p[0] = 128
	for shift := 56; shift >= 0; shift -= 8 {
		p = append(p, byte(length*8>>shift))
	}
	return string(p)
}
