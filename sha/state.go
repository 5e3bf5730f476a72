package sha

import "math/bits"

// blockSize is the number of bytes of a block of the message.
const blockSize = 64

// squareRoots are the first 32 bits of the fractional parts of the square roots of the first 8 primes.
var squareRoots = [8]uint32{
	0x6a09e667, 0xbb67ae85, 0x3c6ef372, 0xa54ff53a, 0x510e527f, 0x9b05688c, 0x1f83d9ab, 0x5be0cd19,
}

// cubeRoots are the first 32 bits of the fractional parts of the cube roots of the first 64 primes.
var cubeRoots = [64]uint32{
	0x428a2f98, 0x71374491, 0xb5c0fbcf, 0xe9b5dba5, 0x3956c25b, 0x59f111f1, 0x923f82a4, 0xab1c5ed5,
	0xd807aa98, 0x12835b01, 0x243185be, 0x550c7dc3, 0x72be5d74, 0x80deb1fe, 0x9bdc06a7, 0xc19bf174,
	0xe49b69c1, 0xefbe4786, 0x0fc19dc6, 0x240ca1cc, 0x2de92c6f, 0x4a7484aa, 0x5cb0a9dc, 0x76f988da,
	0x983e5152, 0xa831c66d, 0xb00327c8, 0xbf597fc7, 0xc6e00bf3, 0xd5a79147, 0x06ca6351, 0x14292967,
	0x27b70a85, 0x2e1b2138, 0x4d2c6dfc, 0x53380d13, 0x650a7354, 0x766a0abb, 0x81c2c92e, 0x92722c85,
	0xa2bfe8a1, 0xa81a664b, 0xc24b8b70, 0xc76c51a3, 0xd192e819, 0xd6990624, 0xf40e3585, 0x106aa070,
	0x19a4c116, 0x1e376c08, 0x2748774c, 0x34b0bcb5, 0x391c0cb3, 0x4ed8aa4a, 0x5b9cca4f, 0x682e6ff3,
	0x748f82ee, 0x78a5636f, 0x84c87814, 0x8cc70208, 0x90befffa, 0xa4506ceb, 0xbef9a3f7, 0xc67178f2,
}

// state is the words that the blocks of a message change.
type state [8]uint32

// mix changes the state by a block.
func (s *state) mix(block []byte) {
	w := schedule(block)
	a, b, c, d, e, f, g, h := s[0], s[1], s[2], s[3], s[4], s[5], s[6], s[7]
	for t, word := range w {
		t1 := h + (right(e, 6) ^ right(e, 11) ^ right(e, 25)) + ((e & f) ^ (^e & g)) + cubeRoots[t] + word
		t2 := (right(a, 2) ^ right(a, 13) ^ right(a, 22)) + ((a & b) ^ (a & c) ^ (b & c))
		h, g, f, e, d, c, b, a = g, f, e, d+t1, c, b, a, t1+t2
	}
	s[0] += a
	s[1] += b
	s[2] += c
	s[3] += d
	s[4] += e
	s[5] += f
	s[6] += g
	s[7] += h
}

// digest returns the bytes of the state.
func (s *state) digest() [32]byte {
	var d [32]byte
	for i, w := range *s {
		d[4*i], d[4*i+1], d[4*i+2], d[4*i+3] = byte(w>>24), byte(w>>16), byte(w>>8), byte(w)
	}
	return d
}

// schedule returns the words W of a block.
func schedule(block []byte) [64]uint32 {
	var w [64]uint32
	for t := range 16 {
		b := block[4*t : 4*t+4]
		w[t] = uint32(b[0])<<24 | uint32(b[1])<<16 | uint32(b[2])<<8 | uint32(b[3])
	}
	for t := 16; t < len(w); t++ {
		x, y := w[t-15], w[t-2]
		s0 := right(x, 7) ^ right(x, 18) ^ x>>3
		s1 := right(y, 17) ^ right(y, 19) ^ y>>10
		w[t] = s1 + w[t-7] + s0 + w[t-16]
	}
	return w
}

// right rotates a word to the right.
func right(w uint32, n int) uint32 { return bits.RotateLeft32(w, -n) }
