package sha1_test

import (
	"bytes"
	oracle "crypto/sha1"
	"encoding/hex"
	"strings"
	"testing"

	"rostrum/sha1"
)

// run makes n bytes, no two neighbours alike, so that bytes that change places are seen.
func run(n int) []byte {
	b := make([]byte, n)
	for i := range b {
		b[i] = byte(i*7 + i>>8*13 + 1)
	}
	return b
}

// roomy lays b into a bigger array, full of what no call should read or write.
func roomy(b []byte) []byte {
	all := bytes.Repeat([]byte{0xa5}, len(b)+200)
	copy(all, b)
	return all[:len(b)]
}

// untouched tells whether b, from roomy, and its spare room are as they were.
func untouched(b, was []byte) bool {
	spare := b[len(b):cap(b)]
	return bytes.Equal(b, was) && len(spare) == 200 && bytes.Count(spare, []byte{0xa5}) == 200
}

// edges are lengths about the ends of blocks.
var edges = []int{0, 1, 2, 3, 4, 54, 55, 56, 57, 62, 63, 64, 65, 118, 119, 120, 121, 127, 128, 129, 183, 184, 192, 1000}

func TestSumExamples(t *testing.T) {
	for in, want := range map[string]string{
		"":    "da39a3ee5e6b4b0d3255bfef95601890afd80709",
		"abc": "a9993e364706816aba3e25717850c26c9cd0d89d",
		"abcdbcdecdefdefgefghfghighijhijkijkljklmklmnlmnomnopnopq": "84983e441c3bd26ebaae4aa1f95129e5e54670f1",
		"The quick brown fox jumps over the lazy dog":              "2fd4e1c67a2d28fced849ee1bb76e7391b93eb12",
		strings.Repeat("01234567", 80):                             "dea356a2cddd90c7a7ecedc5ebb563934f460452",
	} {
		if got := sha1.Sum([]byte(in)); hex.EncodeToString(got[:]) != want {
			t.Errorf("%.20q: %x", in, got)
		}
	}
}

func TestSumOfNothing(t *testing.T) {
	want := oracle.Sum(nil)
	if sha1.Sum(nil) != want || sha1.Sum([]byte{}) != want {
		t.Errorf("%x %x", sha1.Sum(nil), sha1.Sum([]byte{}))
	}
}

func TestSumAtEveryLength(t *testing.T) {
	for n := range 400 {
		if got := sha1.Sum(run(n)); got != oracle.Sum(run(n)) {
			t.Errorf("%d bytes: %x", n, got)
		}
	}
	for _, v := range []byte{0, 128, 255} {
		for _, n := range edges {
			b := bytes.Repeat([]byte{v}, n)
			if got := sha1.Sum(b); got != oracle.Sum(b) {
				t.Errorf("%d times %d: %x", n, v, got)
			}
		}
	}
}

// The number of bits takes more than two bytes, and more than four.
func TestSumOfLongMessages(t *testing.T) {
	for _, n := range []int{8191, 8192, 1<<20 + 5, 1 << 29} {
		b := make([]byte, n)
		if got := sha1.Sum(b); got != oracle.Sum(b) {
			t.Errorf("%d bytes: %x", n, got)
		}
	}
}

func TestSumLeavesItsBytes(t *testing.T) {
	for _, n := range edges {
		b := roomy(run(n))
		first := sha1.Sum(b)
		if !untouched(b, run(n)) {
			t.Error(n, "bytes: written to")
		}
		if again := sha1.Sum(b); first != oracle.Sum(run(n)) || again != first {
			t.Errorf("%d bytes: %x, then %x", n, first, again)
		}
	}
}
