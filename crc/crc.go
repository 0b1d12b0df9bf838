// Package crc is layer 1: see shared/doc/01-crc.md.
package crc

// poly is what a sum is told apart from when a one has left it.
const poly = 0x82f63b78

// eighth is x^8: a sum is a polynomial over bits, whose highest bit belongs to x^0.
const eighth = 1 << (31 - 8)

// Sum tells bytes' sum.
func Sum(b []byte) uint32 {
	return More(0, b)
}

// More goes on with a sum.
func More(sum uint32, b []byte) uint32 {
	s := ^sum
	for _, c := range b {
		s ^= uint32(c)
		for range 8 {
			s = halve(s)
		}
	}
	return ^s
}

// Join makes two sums one.
//
// All steps are linear, and what turns the bits of a and of b cancels out: so a has
// but to be taken past n bytes 0, which is to multiply it by x^8 n times over. That is
// done by squares, since n may be too great to go through.
func Join(a, b uint32, n int) uint32 {
	if n < 1 {
		return a
	}
	for up := uint32(eighth); n > 0; n /= 2 {
		if n%2 == 1 {
			a = times(a, up)
		}
		up = times(up, up)
	}
	return a ^ b
}

// Check tells whether a sum is bytes'.
func Check(b []byte, sum uint32) bool {
	return Sum(b) == sum
}

// halve is one of a byte's eight steps; as the highest bit belongs to x^0, it multiplies by x.
func halve(s uint32) uint32 {
	h := s >> 1
	if s&1 == 1 {
		h ^= poly
	}
	return h
}

// times multiplies two polynomials, as sums hold them.
func times(a, b uint32) uint32 {
	var p uint32
	for i := range 32 {
		if a>>(31-i)&1 == 1 {
			p ^= b
		}
		b = halve(b)
	}
	return p
}
