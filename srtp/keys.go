package srtp

import (
	"bytes"

	"rostrum/aes"
	"rostrum/put"
	"rostrum/sha1"
)

const (
	masterSize = 16
	saltSize   = 14
	macSize    = 20
	tagSize    = 10
)

// Where a counter's beginning has more than the salt.
const (
	labelAt  = 7
	sourceAt = 4 // the index stands behind it
)

// keys are what is made of one key, for media or for control.
type keys struct {
	cipher [masterSize]byte
	tag    [macSize]byte
	salt   [saltSize]byte
}

// newKeys makes the keys of three labels, from label on.
func newKeys(key [masterSize + saltSize]byte, label byte) keys {
	return keys{
		cipher: [masterSize]byte(derived(key, label, masterSize)),
		tag:    [macSize]byte(derived(key, label+1, macSize)),
		salt:   [saltSize]byte(derived(key, label+2, saltSize)),
	}
}

// derived tells the key of a label, with n bytes.
func derived(key [masterSize + saltSize]byte, label byte, n int) []byte {
	iv := counter([saltSize]byte(key[masterSize:]))
	iv[labelAt] ^= label
	return aes.Stream([masterSize]byte(key[:masterSize]), iv, n)
}

// counter is the salt and two noughts behind it.
func counter(salt [saltSize]byte) [masterSize]byte {
	var iv [masterSize]byte
	copy(iv[:], salt[:])
	return iv
}

// crypted tells b with all from its byte from on xored with the stream of the source and the index.
func (k keys) crypted(b []byte, from int, source uint32, index int64) []byte {
	place := put.U16(put.U32(nil, source), uint16(index>>32))
	place = put.U32(place, uint32(index))
	iv := counter(k.salt)
	for i, v := range place {
		iv[sourceAt+i] ^= v
	}
	out := bytes.Clone(b)
	for i, v := range aes.Stream(k.cipher, iv, len(b)-from) {
		out[from+i] ^= v
	}
	return out
}

// tagOf tells the tag of b.
func (k keys) tagOf(b []byte) [tagSize]byte {
	mac := sha1.MAC(k.tag[:], b)
	return [tagSize]byte(mac[:tagSize])
}

// equal asks for all bytes, wherever two differ first: the time that it takes tells nobody how much of a tag was right.
func equal(a, b [tagSize]byte) bool {
	var unlike byte
	for i, v := range a {
		unlike |= v ^ b[i]
	}
	return unlike == 0
}
