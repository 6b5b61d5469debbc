package wire

import "bytes"

// Reader reads big-endian numbers and runs of bytes, from its bytes' beginning on.
type Reader struct {
	rest []byte
	bad  bool
}

// NewReader makes a reader of a copy: what b's owner writes later is not read.
func NewReader(b []byte) *Reader {
	return &Reader{rest: bytes.Clone(b)}
}

// Left tells how many bytes are left, of a bad reader too.
func (r *Reader) Left() int {
	if r == nil {
		return 0
	}
	return len(r.rest)
}

// U8 reads a number of 1 byte.
func (r *Reader) U8() byte {
	return byte(r.number(1))
}

// U16 reads a number of 2 bytes.
func (r *Reader) U16() uint16 {
	return uint16(r.number(2))
}

// U32 reads a number of 4 bytes.
func (r *Reader) U32() uint32 {
	return r.number(4)
}

// Take reads n bytes, into memory of their own.
func (r *Reader) Take(n int) []byte {
	return bytes.Clone(r.next(n))
}

// Bad tells whether more was asked for than there was, or less than nothing.
func (r *Reader) Bad() bool {
	return r == nil || r.bad
}

// number is 0 where next has no bytes for it.
func (r *Reader) number(size int) uint32 {
	var v uint32
	for _, b := range r.next(size) {
		v = v<<8 | uint32(b)
	}
	return v
}

// next cuts off the next n bytes, all of them or none.
func (r *Reader) next(n int) []byte {
	if r.Bad() {
		return nil
	}
	if n < 0 || n > len(r.rest) {
		r.bad = true
		return nil
	}
	b := r.rest[:n]
	r.rest = r.rest[n:]
	return b
}
