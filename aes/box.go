package aes

import "math/bits"

const (
	reduced = 0x1b // x^8, modulo the polynomial
	offset  = 0x63 // what S xors into each byte
	units   = 255  // how many bytes have an inverse
)

// twice tells x times each of the four bytes of w, bytes being polynomials.
func twice(w uint32) uint32 {
	return (w&0x7f7f7f7f)<<1 ^ ((w>>7)&0x01010101)*reduced
}

// newBox tells S of every byte.
func newBox() [256]byte {
	// Every byte but 0 is a power of x + 1, and the inverse of its power i is that of units - i.
	var power [units + 1]byte
	power[0] = 1
	for i := 1; i <= units; i++ {
		p := power[i-1]
		power[i] = p ^ byte(twice(uint32(p)))
	}
	box := [256]byte{offset}
	for i := range units {
		box[power[i]] = spread(power[units-i])
	}
	return box
}

// spread tells S of a byte whose inverse is c.
func spread(c byte) byte {
	s := c ^ offset
	for i := 1; i <= 4; i++ {
		s ^= bits.RotateLeft8(c, i)
	}
	return s
}
