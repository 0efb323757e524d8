package sha

import (
	"math/bits"
)

// wide512 is how many bytes a block has.
const wide512 = 128

// turn512 the eight words by a block: into new ones.
func turn512(old [8]uint64, block [wide512]byte) [8]uint64 {
	m := long512(block)
	a, b, c, d, e, f, g, h := old[0], old[1], old[2], old[3], old[4], old[5], old[6], old[7]
	for t := range m {
		s1 := bits.RotateLeft64(e, -14) ^ bits.RotateLeft64(e, -18) ^ bits.RotateLeft64(e, -41)
		s0 := bits.RotateLeft64(a, -28) ^ bits.RotateLeft64(a, -34) ^ bits.RotateLeft64(a, -39)
		t1 := h + s1 + (e&f ^ ^e&g) + steps[t] + m[t]
		t2 := s0 + (a&b ^ a&c ^ b&c)
		h, g, f, e, d, c, b, a = g, f, e, d+t1, c, b, a, t1+t2
	}
	return [8]uint64{old[0] + a, old[1] + b, old[2] + c, old[3] + d, old[4] + e, old[5] + f, old[6] + g, old[7] + h}
}

// long512 is a block's words, and those that are made of them.
func long512(block [wide512]byte) [80]uint64 {
	var m [80]uint64
	for t := range 16 {
		for _, b := range block[8*t : 8*t+8] {
			m[t] = m[t]<<8 | uint64(b)
		}
	}
	for t := 16; t < len(m); t++ {
		x, y := m[t-2], m[t-15]
		s1 := bits.RotateLeft64(x, -19) ^ bits.RotateLeft64(x, -61) ^ x>>6
		s0 := bits.RotateLeft64(y, -1) ^ bits.RotateLeft64(y, -8) ^ y>>7
		m[t] = s1 + m[t-7] + s0 + m[t-16]
	}
	return m
}

// lay512 words: their bytes, the greatest first.
func lay512(h [8]uint64) [64]byte {
	var b [64]byte
	for i, x := range h {
		for j := range 8 {
			b[8*i+7-j] = byte(x)
			x >>= 8
		}
	}
	return b
}
