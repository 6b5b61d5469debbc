package rtp_test

import (
	"bytes"
	"encoding/binary"
	"testing"

	"rostrum/api"
	"rostrum/rtp"
)

// Every first byte at every length: with the bit for Exts, so many words as the bytes there say.
func TestHeadOfEveryFirstByte(t *testing.T) {
	for first := range 256 {
		for _, fill := range []byte{0, 1, 0xff} {
			for n := range 120 {
				b := bytes.Repeat([]byte{fill}, n)
				if n > 0 {
					b[0] = byte(first)
				}
				if at := 12 + 4*(first%16); n >= at+4 && fill == 1 {
					b[at+2] = 0
				}
				headed(t, "a first byte", b)
			}
		}
	}
}

// headOf asks for want at b, and for ErrForm at each prefix that ends ahead of the Payload.
func headOf(t *testing.T, b []byte, want int) {
	t.Helper()
	if n, e := rtp.Head(b); n != want || e != api.OK {
		t.Errorf("Head of %x: %d %v, not %d", b, n, e, want)
	}
	if n, e := rtp.Head(b[:want]); n != want || e != api.OK {
		t.Errorf("Head of %x alone: %d %v", b[:want], n, e)
	}
	for cut := range want {
		if n, e := rtp.Head(b[:cut]); n != 0 || e != api.ErrForm {
			t.Fatalf("Head of %d bytes of %d: %d %v", cut, want, n, e)
		}
	}
}

func TestHeadExamples(t *testing.T) {
	headOf(t, make12(0x80), 12)
	headOf(t, append(make12(0x80), 1, 2, 3), 12)
	headOf(t, append(make12(0xa0), 1), 12)
	headOf(t, append(make12(0x81), 1, 2, 3, 4), 16)
	headOf(t, append(make12(0x90), 0, 0, 0, 0), 16)
	headOf(t, append(make12(0x90), 0xbe, 0xde, 0, 1, 0, 0, 0, 0, 9), 20)
	headOf(t, append(make12(0xb1), make([]byte, 100)...), 20)
	headOf(t, append(make12(0x8f), make([]byte, 60)...), 72)
	headOf(t, append(make12(0xbf), make([]byte, 64)...), 76)
}

// make12 is the fewest bytes that there may be.
func make12(first byte) []byte {
	return append([]byte{first}, make([]byte, 11)...)
}

func TestHeadOfPacketsOfAllSorts(t *testing.T) {
	for _, p := range packets() {
		headOf(t, laid(p), len(laid(p))-p.Pad-len(p.Payload))
	}
}

// Head asks neither for be de, nor for what the words hold, nor for Pad.
func TestHeadAsksForLittle(t *testing.T) {
	for _, n := range []int{0, 1, 15} {
		for _, words := range []int{0, 1, 2, 9} {
			for _, fill := range []byte{0, 0x0f, 0xf0, 0xff} {
				head := 12 + 4*n + 4 + 4*words
				b := bytes.Repeat([]byte{fill}, head+7)
				b[0] = byte(0xb0 + n)
				binary.BigEndian.PutUint16(b[12+4*n+2:], uint16(words))
				headOf(t, b, head)
				refused(t, "what Head takes", b)
			}
		}
	}
	for _, p := range packets() {
		b := laid(p)
		b[0] |= 32
		b[len(b)-1] = 0
		headed(t, "Pad 0", b)
		b[len(b)-1] = 255
		headed(t, "a great Pad", b)
	}
}

func TestHeadOfManyBytes(t *testing.T) {
	for _, words := range []int{367, 368, 371, 372, 400, 0x7fff, 0x8000, 0xfffe, 0xffff} {
		b := make([]byte, 12+4+4*words)
		b[0] = 0x90
		binary.BigEndian.PutUint16(b[14:], uint16(words))
		if n, e := rtp.Head(b); n != len(b) || e != api.OK {
			t.Errorf("%d words: %d %v", words, n, e)
		}
		if n, e := rtp.Head(append(b, 1)); n != len(b) || e != api.OK {
			t.Errorf("%d words and a byte: %d %v", words, n, e)
		}
		if n, e := rtp.Head(b[:len(b)-1]); n != 0 || e != api.ErrForm {
			t.Errorf("%d words but for a byte: %d %v", words, n, e)
		}
	}
	if n, e := rtp.Head(append(make12(0x80), make([]byte, 1<<20)...)); n != 12 || e != api.OK {
		t.Error(n, e)
	}
}

func TestHeadIsByTheFirstByteAndTheLength(t *testing.T) {
	b := laid(with(2, exts(3, 4), value(5), 3))
	want := len(b) - 8
	for at := range b {
		if at == 0 || at == 22 || at == 23 {
			continue
		}
		for v := range 256 {
			c := bytes.Clone(b)
			c[at] = byte(v)
			if n, e := rtp.Head(c); n != want || e != api.OK {
				t.Fatalf("the byte %d is %d: %d %v", at, v, n, e)
			}
		}
	}
}
