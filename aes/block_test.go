package aes_test

import (
	oracle "crypto/aes"
	"encoding/hex"
	"testing"

	"rostrum/aes"
)

// encrypted is the library's AES-128 of one block.
func encrypted(key, in [16]byte) [16]byte {
	c, err := oracle.NewCipher(key[:])
	if err != nil {
		panic(err)
	}
	var out [16]byte
	c.Encrypt(out[:], in[:])
	return out
}

// sixteen reads 16 bytes of hexadecimal digits.
func sixteen(t *testing.T, text string) [16]byte {
	t.Helper()
	b, err := hex.DecodeString(text)
	if err != nil || len(b) != 16 {
		t.Fatalf("%q: %v", text, err)
	}
	return [16]byte(b)
}

// filled makes a block of v alone.
func filled(v byte) [16]byte {
	var b [16]byte
	for i := range b {
		b[i] = v
	}
	return b
}

// hold tells whether Block answers what the library does.
func hold(t *testing.T, key, in [16]byte) {
	t.Helper()
	if got := aes.Block(key, in); got != encrypted(key, in) {
		t.Errorf("%x under %x: %x", in, key, got)
	}
}

// The chapter's example, which is FIPS 197's of its appendix C.1; its appendix B; SP 800-38A, F.1.1; and tests of all noughts.
func TestBlockExamples(t *testing.T) {
	for _, c := range []struct{ key, in, want string }{
		{"000102030405060708090a0b0c0d0e0f", "00112233445566778899aabbccddeeff", "69c4e0d86a7b0430d8cdb78070b4c55a"},
		{"2b7e151628aed2a6abf7158809cf4f3c", "3243f6a8885a308d313198a2e0370734", "3925841d02dc09fbdc118597196a0b32"},
		{"2b7e151628aed2a6abf7158809cf4f3c", "6bc1bee22e409f96e93d7e117393172a", "3ad77bb40d7a3660a89ecaf32466ef97"},
		{"2b7e151628aed2a6abf7158809cf4f3c", "f69f2445df4f9b17ad2b417be66c3710", "7b0c785e27e8ad3f8223207104725dd4"},
		{"00000000000000000000000000000000", "00000000000000000000000000000000", "66e94bd4ef8a2c3b884cfa59ca342b2e"},
		{"00000000000000000000000000000000", "80000000000000000000000000000000", "3ad78e726c1ec02b7ebfe92b23d9ec34"},
		{"80000000000000000000000000000000", "00000000000000000000000000000000", "0edd33d3c621e546455bd8ba1418bec8"},
	} {
		if got := aes.Block(sixteen(t, c.key), sixteen(t, c.in)); got != sixteen(t, c.want) {
			t.Errorf("%s under %s: %x", c.in, c.key, got)
		}
	}
}

// Every byte stands at every place, of the block and of the key, alone and among others.
func TestBlockOfEveryByte(t *testing.T) {
	others := sixteen(t, "f7e2d3c4b5a6978879605142332415f1")
	for v := range 256 {
		hold(t, filled(byte(v)), filled(byte(v)))
		hold(t, others, filled(byte(v)))
		hold(t, filled(byte(v)), others)
		for at := range 16 {
			one, among := [16]byte{}, others
			one[at], among[at] = byte(v), byte(v)
			hold(t, [16]byte{}, one)
			hold(t, one, [16]byte{})
			hold(t, others, among)
			hold(t, among, others)
		}
	}
}

// Each answer is the next block and turned into the next key, so that all bytes come by.
func TestBlockChain(t *testing.T) {
	key, in := sixteen(t, "0123456789abcdeffedcba9876543210"), [16]byte{}
	for range 20000 {
		hold(t, key, in)
		if t.Failed() {
			return
		}
		in = encrypted(key, in)
		for i := range key {
			key[i] ^= in[15-i]
		}
	}
}

// What was asked before, of another key, changes nothing.
func TestBlockHasNoHistory(t *testing.T) {
	key, in := filled(3), filled(7)
	first := aes.Block(key, in)
	aes.Block(filled(9), in)
	aes.Stream(filled(11), in, 100)
	if again := aes.Block(key, in); again != first || first != encrypted(key, in) {
		t.Errorf("%x, then %x", first, again)
	}
	if key != filled(3) || in != filled(7) {
		t.Error("written to")
	}
}
