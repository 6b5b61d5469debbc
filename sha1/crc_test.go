package sha1_test

import (
	"bytes"
	"hash/crc32"
	"testing"

	"rostrum/sha1"
)

func TestCRCExamples(t *testing.T) {
	for in, want := range map[string]uint32{
		"":          0,
		"\x00":      0xd202ef8d,
		"a":         0xe8b7be43,
		"123456789": 0xcbf43926,
		"The quick brown fox jumps over the lazy dog": 0x414fa339,
	} {
		if got := sha1.CRC([]byte(in)); got != want {
			t.Errorf("%q: %x", in, got)
		}
	}
	if sha1.CRC(nil) != 0 || sha1.CRC([]byte{}) != 0 {
		t.Error("no bytes")
	}
}

func TestCRCOfEveryByte(t *testing.T) {
	for v := range 256 {
		for _, b := range [][]byte{{byte(v)}, {byte(v), 0}, {0xff, byte(v)}} {
			if got := sha1.CRC(b); got != crc32.ChecksumIEEE(b) {
				t.Errorf("%x: %x", b, got)
			}
		}
	}
}

func TestCRCAtEveryLength(t *testing.T) {
	for n := range 400 {
		if got := sha1.CRC(run(n)); got != crc32.ChecksumIEEE(run(n)) {
			t.Errorf("%d bytes: %x", n, got)
		}
	}
	for _, v := range []byte{0, 255} {
		b := bytes.Repeat([]byte{v}, 100000)
		if got := sha1.CRC(b); got != crc32.ChecksumIEEE(b) {
			t.Errorf("%d many times: %x", v, got)
		}
	}
}

func TestCRCLeavesItsBytes(t *testing.T) {
	for _, n := range edges {
		b := roomy(run(n))
		first := sha1.CRC(b)
		if !untouched(b, run(n)) {
			t.Error(n, "bytes: written to")
		}
		if again := sha1.CRC(b); first != crc32.ChecksumIEEE(run(n)) || again != first {
			t.Errorf("%d bytes: %x, then %x", n, first, again)
		}
	}
}
