package sha

import "math/bits"

// blockSize is how many bytes a block has.
const blockSize = 64

// rounds is how often a block's words are mixed in.
const rounds = 64

// constants are k(0) to k(63).
var constants = [rounds]uint32{
	0x428a2f98, 0x71374491, 0xb5c0fbcf, 0xe9b5dba5, 0x3956c25b, 0x59f111f1, 0x923f82a4, 0xab1c5ed5,
	0xd807aa98, 0x12835b01, 0x243185be, 0x550c7dc3, 0x72be5d74, 0x80deb1fe, 0x9bdc06a7, 0xc19bf174,
	0xe49b69c1, 0xefbe4786, 0x0fc19dc6, 0x240ca1cc, 0x2de92c6f, 0x4a7484aa, 0x5cb0a9dc, 0x76f988da,
	0x983e5152, 0xa831c66d, 0xb00327c8, 0xbf597fc7, 0xc6e00bf3, 0xd5a79147, 0x06ca6351, 0x14292967,
	0x27b70a85, 0x2e1b2138, 0x4d2c6dfc, 0x53380d13, 0x650a7354, 0x766a0abb, 0x81c2c92e, 0x92722c85,
	0xa2bfe8a1, 0xa81a664b, 0xc24b8b70, 0xc76c51a3, 0xd192e819, 0xd6990624, 0xf40e3585, 0x106aa070,
	0x19a4c116, 0x1e376c08, 0x2748774c, 0x34b0bcb5, 0x391c0cb3, 0x4ed8aa4a, 0x5b9cca4f, 0x682e6ff3,
	0x748f82ee, 0x78a5636f, 0x84c87814, 0x8cc70208, 0x90befffa, 0xa4506ceb, 0xbef9a3f7, 0xc67178f2,
}

// right returns x rotated right by n bits.
func right(x uint32, n int) uint32 {
	return bits.RotateLeft32(x, -n)
}

// spread returns w(0) to w(63) of the block.
func spread(block [blockSize]byte) [rounds]uint32 {
	var w [rounds]uint32
	for t := range 16 {
		w[t] = uint32(block[4*t])<<24 | uint32(block[4*t+1])<<16 | uint32(block[4*t+2])<<8 | uint32(block[4*t+3])
	}
	for t := 16; t < rounds; t++ {
		x, y := w[t-15], w[t-2]
		s0 := right(x, 7) ^ right(x, 18) ^ x>>3
		s1 := right(y, 17) ^ right(y, 19) ^ y>>10
		w[t] = s1 + w[t-7] + s0 + w[t-16]
	}
	return w
}

// mixed returns the words after the block has been processed.
func mixed(words [8]uint32, block [blockSize]byte) [8]uint32 {
	w := spread(block)
	a, b, c, d := words[0], words[1], words[2], words[3]
	e, f, g, h := words[4], words[5], words[6], words[7]
	for t := range rounds {
		s1 := right(e, 6) ^ right(e, 11) ^ right(e, 25)
		first := h + s1 + (e&f ^ ^e&g) + constants[t] + w[t]
		s0 := right(a, 2) ^ right(a, 13) ^ right(a, 22)
		second := s0 + (a&b ^ a&c ^ b&c)
		h, g, f, e = g, f, e, d+first
		d, c, b, a = c, b, a, first+second
	}
	return [8]uint32{
		words[0] + a, words[1] + b, words[2] + c, words[3] + d,
		words[4] + e, words[5] + f, words[6] + g, words[7] + h,
	}
}
