// Package put lays big-endian numbers behind bytes; several layers share it.
package put

// U16 is b with the 2 bytes of v behind it.
func U16(b []byte, v uint16) []byte {
	return append(b, byte(v>>8), byte(v))
}

// U24 is b with the lower 3 bytes of v behind it.
func U24(b []byte, v uint32) []byte {
	return U16(append(b, byte(v>>16)), uint16(v))
}

// U32 is b with the 4 bytes of v behind it.
func U32(b []byte, v uint32) []byte {
	return U16(U16(b, uint16(v>>16)), uint16(v))
}

// U64 is b with the 8 bytes of v behind it.
func U64(b []byte, v uint64) []byte {
	return U32(U32(b, uint32(v>>32)), uint32(v))
}
