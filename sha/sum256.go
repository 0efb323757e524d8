package sha

import (
	"math/bits"

	"witan/api"
)

// wide256 is how many bytes a block has.
const wide256 = 64

// first256 is what the eight words begin as.
func first256() [8]uint32 {
	var h [8]uint32
	for i := range h {
		h[i] = uint32(starts[i] >> 32)
	}
	return h
}

// turn256 the eight words by a block: into new ones.
func turn256(old [8]uint32, block [wide256]byte) [8]uint32 {
	m := long256(block)
	a, b, c, d, e, f, g, h := old[0], old[1], old[2], old[3], old[4], old[5], old[6], old[7]
	for t := range m {
		s1 := bits.RotateLeft32(e, -6) ^ bits.RotateLeft32(e, -11) ^ bits.RotateLeft32(e, -25)
		s0 := bits.RotateLeft32(a, -2) ^ bits.RotateLeft32(a, -13) ^ bits.RotateLeft32(a, -22)
		t1 := h + s1 + (e&f ^ ^e&g) + uint32(steps[t]>>32) + m[t]
		t2 := s0 + (a&b ^ a&c ^ b&c)
		h, g, f, e, d, c, b, a = g, f, e, d+t1, c, b, a, t1+t2
	}
	return [8]uint32{old[0] + a, old[1] + b, old[2] + c, old[3] + d, old[4] + e, old[5] + f, old[6] + g, old[7] + h}
}

// long256 is a block's words, and those that are made of them.
func long256(block [wide256]byte) [64]uint32 {
	var m [64]uint32
	for t := range 16 {
		b := block[4*t : 4*t+4]
		m[t] = uint32(b[0])<<24 | uint32(b[1])<<16 | uint32(b[2])<<8 | uint32(b[3])
	}
	for t := 16; t < len(m); t++ {
		x, y := m[t-2], m[t-15]
		s1 := bits.RotateLeft32(x, -17) ^ bits.RotateLeft32(x, -19) ^ x>>10
		s0 := bits.RotateLeft32(y, -7) ^ bits.RotateLeft32(y, -18) ^ y>>3
		m[t] = s1 + m[t-7] + s0 + m[t-16]
	}
	return m
}

// lay256 words: their bytes, the greatest first.
func lay256(h [8]uint32) api.Hash {
	var b api.Hash
	for i, x := range h {
		for j := range 4 {
			b[4*i+3-j] = byte(x)
			x >>= 8
		}
	}
	return b
}
