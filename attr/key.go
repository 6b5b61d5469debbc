package attr

import "strings"

// keyLetters are base64's, by their values.
const keyLetters = "ABCDEFGHIJKLMNOPQRSTUVWXYZabcdefghijklmnopqrstuvwxyz0123456789+/"

// A key's bytes and its letters: three bytes are four letters, of 6 bits each.
const (
	keyBytes   = 30
	threeBytes = 3
	fourParts  = 4
	partBits   = 6
	partMask   = 1<<partBits - 1
)

// writeKey tells the letters of a key.
func writeKey(key [keyBytes]byte) string {
	var b strings.Builder
	for i := 0; i < keyBytes; i += threeBytes {
		bits := uint32(key[i])<<16 | uint32(key[i+1])<<8 | uint32(key[i+2])
		for part := range fourParts {
			shift := partBits * (fourParts - 1 - part)
			b.WriteByte(keyLetters[bits>>shift&partMask])
		}
	}
	return b.String()
}

// readKey tells the key whose letters s is; of what is no key, any key.
func readKey(s string) [keyBytes]byte {
	var key [keyBytes]byte
	if len(s) != keyBytes/threeBytes*fourParts {
		return key
	}
	for i := 0; i < keyBytes; i += threeBytes {
		bits := uint32(0)
		for range fourParts {
			bits = bits<<partBits | uint32(strings.IndexByte(keyLetters, s[0]))&partMask
			s = s[1:]
		}
		key[i], key[i+1], key[i+2] = byte(bits>>16), byte(bits>>8), byte(bits)
	}
	return key
}
