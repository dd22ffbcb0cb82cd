package digest

import (
	"math/bits"
)

const (
	// blockSize is the number of bytes of a block.
	blockSize = 64
	// lengthStart is where the length begins in the last block of a padded string.
	lengthStart = 56
	// rounds is the number of steps for each block.
	rounds = 64
)

// squareRoots are the numbers H of the chapter.
var squareRoots = [8]uint32{
	0x6a09e667, 0xbb67ae85, 0x3c6ef372, 0xa54ff53a, 0x510e527f, 0x9b05688c, 0x1f83d9ab, 0x5be0cd19,
}

// cubeRoots are the numbers K of the chapter.
var cubeRoots = [rounds]uint32{
	0x428a2f98, 0x71374491, 0xb5c0fbcf, 0xe9b5dba5, 0x3956c25b, 0x59f111f1, 0x923f82a4, 0xab1c5ed5,
	0xd807aa98, 0x12835b01, 0x243185be, 0x550c7dc3, 0x72be5d74, 0x80deb1fe, 0x9bdc06a7, 0xc19bf174,
	0xe49b69c1, 0xefbe4786, 0x0fc19dc6, 0x240ca1cc, 0x2de92c6f, 0x4a7484aa, 0x5cb0a9dc, 0x76f988da,
	0x983e5152, 0xa831c66d, 0xb00327c8, 0xbf597fc7, 0xc6e00bf3, 0xd5a79147, 0x06ca6351, 0x14292967,
	0x27b70a85, 0x2e1b2138, 0x4d2c6dfc, 0x53380d13, 0x650a7354, 0x766a0abb, 0x81c2c92e, 0x92722c85,
	0xa2bfe8a1, 0xa81a664b, 0xc24b8b70, 0xc76c51a3, 0xd192e819, 0xd6990624, 0xf40e3585, 0x106aa070,
	0x19a4c116, 0x1e376c08, 0x2748774c, 0x34b0bcb5, 0x391c0cb3, 0x4ed8aa4a, 0x5b9cca4f, 0x682e6ff3,
	0x748f82ee, 0x78a5636f, 0x84c87814, 0x8cc70208, 0x90befffa, 0xa4506ceb, 0xbef9a3f7, 0xc67178f2,
}

// compress returns the state behind a block, from the state before it.
func compress(state [8]uint32, block [blockSize]byte) [8]uint32 {
	w := expand(block)
	a, b, c, d := state[0], state[1], state[2], state[3]
	e, f, g, h := state[4], state[5], state[6], state[7]
	for t := range rounds {
		t1 := h + (rotr(e, 6) ^ rotr(e, 11) ^ rotr(e, 25)) + (e&f ^ ^e&g) + cubeRoots[t] + w[t]
		t2 := (rotr(a, 2) ^ rotr(a, 13) ^ rotr(a, 22)) + (a&b ^ a&c ^ b&c)
		a, b, c, d, e, f, g, h = t1+t2, a, b, c, d+t1, e, f, g
	}
	return [8]uint32{
		state[0] + a, state[1] + b, state[2] + c, state[3] + d,
		state[4] + e, state[5] + f, state[6] + g, state[7] + h,
	}
}

// expand returns the numbers W of a block.
func expand(block [blockSize]byte) [rounds]uint32 {
	var w [rounds]uint32
	for i, b := range block {
		w[i/4] = w[i/4]<<8 | uint32(b)
	}
	for t := blockSize / 4; t < rounds; t++ {
		x, y := w[t-15], w[t-2]
		s0 := rotr(x, 7) ^ rotr(x, 18) ^ x>>3
		s1 := rotr(y, 17) ^ rotr(y, 19) ^ y>>10
		w[t] = w[t-16] + s0 + w[t-7] + s1
	}
	return w
}

// rotr rotates a number to the right by n bits.
func rotr(x uint32, n int) uint32 { return bits.RotateLeft32(x, -n) }
