package aes

import "math/bits"

const (
	rounds = 10
	words  = 4 * (rounds + 1)
)

// state is a block's four columns: each a number of four bytes, the byte of row 0 the greatest.
type state [4]uint32

// cipher is what all blocks under one key have in common, so that a stream makes it once.
type cipher struct {
	box  [256]byte
	keys [words]uint32
}

func newCipher(key [blockSize]byte) *cipher {
	c := &cipher{box: newBox()}
	first := columns(key)
	copy(c.keys[:], first[:])
	power := uint32(1)
	for i := len(first); i < words; i++ {
		w := c.keys[i-1]
		if i%4 == 0 {
			w = bits.RotateLeft32(w, 8)
			w = c.boxed(w, w, w, w) ^ power<<24
			power = twice(power)
		}
		c.keys[i] = c.keys[i-4] ^ w
	}
	return c
}

func (c *cipher) encrypt(in [blockSize]byte) [blockSize]byte {
	s := c.added(columns(in), 0)
	for round := 1; round < rounds; round++ {
		s = c.turned(s)
		s = state{mixed(s[0]), mixed(s[1]), mixed(s[2]), mixed(s[3])}
		s = c.added(s, round)
	}
	return c.added(c.turned(s), rounds).bytes()
}

// added tells s with the four words of a round xored into it.
func (c *cipher) added(s state, round int) state {
	k := c.keys[4*round:]
	return state{s[0] ^ k[0], s[1] ^ k[1], s[2] ^ k[2], s[3] ^ k[3]}
}

// turned tells s with each byte put through S and row r turned by r columns to the left.
func (c *cipher) turned(s state) state {
	return state{
		c.boxed(s[0], s[1], s[2], s[3]),
		c.boxed(s[1], s[2], s[3], s[0]),
		c.boxed(s[2], s[3], s[0], s[1]),
		c.boxed(s[3], s[0], s[1], s[2]),
	}
}

// boxed tells the column whose byte of row r is S of the byte of row r of the column r that is handed in.
func (c *cipher) boxed(w0, w1, w2, w3 uint32) uint32 {
	b0, b1, b2, b3 := c.box[byte(w0>>24)], c.box[byte(w1>>16)], c.box[byte(w2>>8)], c.box[byte(w3)]
	return uint32(b0)<<24 | uint32(b1)<<16 | uint32(b2)<<8 | uint32(b3)
}

// mixed tells a column multiplied by the polynomial.
func mixed(w uint32) uint32 {
	// 2 a(r) + 3 a(r+1) is 2 (a(r) + a(r+1)) + a(r+1), for all four rows at once.
	behind := bits.RotateLeft32(w, 8)
	return twice(w^behind) ^ behind ^ bits.RotateLeft32(w, 16) ^ bits.RotateLeft32(w, 24)
}

// columns tells a block as its columns.
func columns(b [blockSize]byte) state {
	var s state
	for i, v := range b {
		s[i/4] = s[i/4]<<8 | uint32(v)
	}
	return s
}

func (s state) bytes() [blockSize]byte {
	var b [blockSize]byte
	for i := range b {
		b[i] = byte(s[i/4] >> (24 - i%4*8))
	}
	return b
}
