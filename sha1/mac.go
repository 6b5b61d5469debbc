package sha1

// The bytes that set the two sums of a MAC apart.
const (
	inner = 54
	outer = 92
)

// MAC tells the HMAC-SHA-1 of message under key.
func MAC(key, message []byte) [20]byte {
	if len(key) > blockSize {
		short := Sum(key)
		key = short[:]
	}
	in := keyed(key, inner).end(blockSize, message)
	return keyed(key, outer).end(blockSize, in[:])
}

// keyed tells the state behind the block of key, filled with noughts, and mask in each byte.
func keyed(key []byte, mask byte) state {
	var block [blockSize]byte
	copy(block[:], key)
	for i := range block {
		block[i] ^= mask
	}
	return begin().behind(block[:])
}
