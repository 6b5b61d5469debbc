package aes_test

import (
	"bytes"
	oracle "crypto/aes"
	"crypto/cipher"
	"encoding/hex"
	"math"
	"math/big"
	"testing"

	"rostrum/aes"
)

// stream is the library's counter mode over noughts.
func stream(key, iv [16]byte, n int) []byte {
	c, err := oracle.NewCipher(key[:])
	if err != nil {
		panic(err)
	}
	out := make([]byte, n)
	cipher.NewCTR(c, iv[:]).XORKeyStream(out, out)
	return out
}

// counters is the stream as the chapter tells it: the blocks of numbers modulo 2^128.
func counters(key, iv [16]byte, n int) []byte {
	var out []byte
	at, size := new(big.Int).SetBytes(iv[:]), new(big.Int).Lsh(big.NewInt(1), 128)
	for len(out) < n {
		var in [16]byte
		at.FillBytes(in[:])
		b := encrypted(key, in)
		out = append(out, b[:]...)
		at.Add(at, big.NewInt(1)).Mod(at, size)
	}
	return out[:n]
}

var streamKey = [16]byte{0x2b, 0x7e, 0x15, 0x16, 0x28, 0xae, 0xd2, 0xa6, 0xab, 0xf7, 0x15, 0x88, 0x09, 0xcf, 0x4f, 0x3c}

// RFC 3711's B.2, SP 800-38A's F.5.1, and the three keys of RFC 3711's B.3.
func TestStreamExamples(t *testing.T) {
	for _, c := range []struct{ key, iv, want string }{
		{"2b7e151628aed2a6abf7158809cf4f3c", "f0f1f2f3f4f5f6f7f8f9fafbfcfd0000", "e03ead0935c95e80e166b16dd92b4eb4d23513162b02d0f72a43a2fe4a5f97ab41e95b3bb0a2e8dd477901e4fca894c0"},
		{"2b7e151628aed2a6abf7158809cf4f3c", "f0f1f2f3f4f5f6f7f8f9fafbfcfdfeff", "ec8cdf7398607cb0f2d21675ea9ea1e4362b7c3c6773516318a077d7fc5073ae"},
		{"e1f97a0d3e018be0d64fa32c06de4139", "0ec675ad498afeebb6960b3aabe60000", "c61e7a93744f39ee10734afe3ff7a087"},
		{"e1f97a0d3e018be0d64fa32c06de4139", "0ec675ad498afeeab6960b3aabe60000", "cebe321f6ff7716b6fd4ab49af256a156d38baa4"},
		{"e1f97a0d3e018be0d64fa32c06de4139", "0ec675ad498afee9b6960b3aabe60000", "30cbbc08863d8c85d49db34a9ae1"},
	} {
		got := aes.Stream(sixteen(t, c.key), sixteen(t, c.iv), len(c.want)/2)
		if hex.EncodeToString(got) != c.want {
			t.Errorf("%s under %s: %x", c.iv, c.key, got)
		}
	}
}

// Lengths that end within a block, at its end, and one behind it.
func TestStreamAtEveryLength(t *testing.T) {
	key, iv := filled(0x5c), sixteen(t, "00112233445566778899aabbccddee7f")
	all := stream(key, iv, 600)
	for n := 1; n <= len(all); n++ {
		if got := aes.Stream(key, iv, n); !bytes.Equal(got, all[:n]) {
			t.Errorf("%d bytes: %x", n, got)
		}
	}
}

func TestStreamIsOfBlocks(t *testing.T) {
	iv := filled(0x40)
	got := aes.Stream(streamKey, iv, 48)
	for i := range 3 {
		if b := aes.Block(streamKey, iv); !bytes.Equal(got[16*i:16*i+16], b[:]) {
			t.Errorf("block %d: %x", i, got[16*i:16*i+16])
		}
		iv[15]++
	}
}

// The counter's last byte wraps, several bytes, and all 16, at the first block and at later ones.
func TestStreamWraps(t *testing.T) {
	for _, low := range []byte{0xff, 0xfe, 0xfd, 0xf0} {
		for ones := range 16 {
			for _, above := range []byte{0, 1, 0x7f, 0xfe} {
				iv := filled(0xff)
				iv[15] = low
				for i := range 15 - ones {
					iv[i] = above
				}
				got, want := aes.Stream(streamKey, iv, 330), counters(streamKey, iv, 330)
				if !bytes.Equal(got, want) || !bytes.Equal(want, stream(streamKey, iv, 330)) {
					t.Errorf("%x: %x", iv, got)
				}
			}
		}
	}
}

func TestStreamWrapsToNought(t *testing.T) {
	got := aes.Stream(streamKey, filled(0xff), 48)
	last, nought, one := encrypted(streamKey, filled(0xff)), encrypted(streamKey, [16]byte{}), encrypted(streamKey, [16]byte{15: 1})
	if want := append(append(last[:], nought[:]...), one[:]...); !bytes.Equal(got, want) {
		t.Errorf("%x", got)
	}
}

func TestStreamOfNoLength(t *testing.T) {
	for _, n := range []int{math.MinInt, math.MinInt32, -65536, -16, -1, 0, 65537, 65552, 1 << 17, 1<<32 + 1, math.MaxInt32, math.MaxInt} {
		if got := aes.Stream(streamKey, filled(1), n); len(got) != 0 || cap(got) != 0 {
			t.Errorf("%d: %d bytes, room for %d", n, len(got), cap(got))
		}
	}
}

// The shortest and the longest, which goes through 4096 counters.
func TestStreamOfUtmostLength(t *testing.T) {
	for _, iv := range [][16]byte{{}, filled(0xff), sixteen(t, "00000000000000000000000000fffff0")} {
		for _, n := range []int{1, 2, 65519, 65520, 65521, 65535, 65536} {
			got := aes.Stream(streamKey, iv, n)
			if !bytes.Equal(got, counters(streamKey, iv, n)) {
				t.Errorf("%x: %d bytes are wrong, or are %d", iv, n, len(got))
			}
		}
	}
}

func TestStreamOfManyKeys(t *testing.T) {
	key, iv := [16]byte{}, filled(0xa7)
	for i := range 3000 {
		n := 1 + i%70
		if got := aes.Stream(key, iv, n); !bytes.Equal(got, stream(key, iv, n)) {
			t.Fatalf("%x under %x: %x", iv, key, got)
		}
		key, iv = encrypted(key, iv), encrypted(iv, key)
	}
}

// An answer is new memory, its spare room too, and what was handed in stays.
func TestStreamIsNew(t *testing.T) {
	key, iv := filled(3), filled(0xff)
	for _, n := range []int{1, 16, 17, 100} {
		first := aes.Stream(key, iv, n)
		again := aes.Stream(key, iv, n)
		first = first[:cap(first)]
		for i := range first {
			first[i] = 0xa5
		}
		if third := aes.Stream(key, iv, n); !bytes.Equal(again, stream(key, iv, n)) || !bytes.Equal(third, again) {
			t.Errorf("%d bytes: %x, then %x", n, again, third)
		}
	}
	if key != filled(3) || iv != filled(0xff) {
		t.Error("written to")
	}
}
