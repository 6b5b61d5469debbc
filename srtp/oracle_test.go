package srtp_test

import (
	"bytes"
	"crypto/aes"
	"crypto/cipher"
	"crypto/hmac"
	"crypto/sha1"
	"encoding/binary"
	"encoding/hex"
	"math/big"
	"testing"

	"rostrum/rtp"
)

// The labels of the keys for media, and those for control.
const (
	ofMedia   = 0
	ofControl = 3
)

// stream is the library's counter mode over noughts; iv is a number of 128 bits.
func stream(key []byte, iv *big.Int, n int) []byte {
	c, err := aes.NewCipher(key)
	if err != nil {
		panic(err)
	}
	out := make([]byte, n)
	cipher.NewCTR(c, iv.FillBytes(make([]byte, 16))).XORKeyStream(out, out)
	return out
}

// mac is the library's HMAC, its first 10 bytes.
func mac(key []byte, b ...[]byte) []byte {
	h := hmac.New(sha1.New, key)
	for _, x := range b {
		h.Write(x)
	}
	return h.Sum(nil)[:10]
}

// times is x times 2^n.
func times(x *big.Int, n uint) *big.Int {
	return new(big.Int).Lsh(x, n)
}

// labelled is n bytes of the key of a label, by RFC 3711's formula: 2^48 times the label and the salt, as numbers.
func labelled(key [30]byte, label, n int) []byte {
	x := new(big.Int).SetBytes(key[16:])
	x.Xor(x, times(big.NewInt(int64(label)), 48))
	return stream(key[:16], times(x, 16), n)
}

// crypted is b with all from the byte from on turned by the stream of a source and an index, by RFC 3711's formula, too.
func crypted(key [30]byte, label int, b []byte, from int, source uint32, index int64) []byte {
	iv := times(new(big.Int).SetBytes(labelled(key, label+2, 14)), 16)
	iv.Xor(iv, times(big.NewInt(int64(source)), 64))
	iv.Xor(iv, times(big.NewInt(index), 16))
	out := bytes.Clone(b)
	for i, v := range stream(labelled(key, label, 16), iv, len(b)-from) {
		out[from+i] ^= v
	}
	return out
}

// media turns a media packet by its stream, there and back.
func media(key [30]byte, b []byte, index int64) []byte {
	head, _ := rtp.Head(b)
	return crypted(key, ofMedia, b, head, binary.BigEndian.Uint32(b[8:]), index)
}

// control turns a control packet by its stream, there and back.
func control(key [30]byte, b []byte, index int64) []byte {
	return crypted(key, ofControl, b, 8, binary.BigEndian.Uint32(b[4:]), index)
}

// mediaSealed is b protected under the index.
func mediaSealed(key [30]byte, b []byte, index int64) []byte {
	x := media(key, b, index)
	roc := binary.BigEndian.AppendUint32(nil, uint32(index/65536))
	return append(x, mac(labelled(key, 1, 20), x, roc)...)
}

// controlSealed is b protected under the index.
func controlSealed(key [30]byte, b []byte, index int64) []byte {
	x := control(key, b, index)
	x = binary.BigEndian.AppendUint32(x, uint32(index+2147483648))
	return append(x, mac(labelled(key, 4, 20), x)...)
}

// fromHex is the bytes of hexadecimal digits.
func fromHex(text string) []byte {
	b, err := hex.DecodeString(text)
	if err != nil {
		panic(err)
	}
	return b
}

// The key and the salt of RFC 3711's B.3.
var published = [30]byte(fromHex("e1f97a0d3e018be0d64fa32c06de4139" + "0ec675ad498afeebb6960b3aabe6"))

// The tests' own keys, held against RFC 3711's B.3: the tag's key is of 94 bytes there, of which the first 20 count.
func TestTheTestsOwnKeys(t *testing.T) {
	for label, want := range []string{
		"c61e7a93744f39ee10734afe3ff7a087",
		"cebe321f6ff7716b6fd4ab49af256a156d38baa4",
		"30cbbc08863d8c85d49db34a9ae1",
	} {
		if got := labelled(published, label, len(want)/2); hex.EncodeToString(got) != want {
			t.Errorf("%d: %x", label, got)
		}
	}
}

// The packets that are protected in the tests of a library that is widely used, under the same key.
func TestTheTestsOwnPackets(t *testing.T) {
	x := mediaSealed(published, fromHex(plainMedia), 0x1234)
	if hex.EncodeToString(x) != sealedMedia {
		t.Errorf("media: %x", x)
	}
	x = controlSealed(published, fromHex(plainControl), 1)
	if hex.EncodeToString(x) != sealedControl {
		t.Errorf("control: %x", x)
	}
}

const (
	plainMedia    = "800f1234decafbadcafebabe" + "abababababababababababababababab"
	sealedMedia   = "800f1234decafbadcafebabe" + "4e55dc4ce79978d88ca4d215949d2402" + "b78d6acc99ea179b8dbb"
	plainControl  = "81c8000bcafebabe" + "abababababababababababababababab"
	sealedControl = "81c8000bcafebabe" + "7128035be487b9bdbef89041f977a5a8" + "80000001" + "993e08cd54d6c1230798"
)
