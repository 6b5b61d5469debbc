package rtp_test

import (
	"bytes"
	"encoding/binary"
	"math/rand"
	"slices"
	"testing"

	"rostrum/rtp"
)

func TestEachBitTurned(t *testing.T) {
	for _, p := range packets() {
		b := laid(p)
		for at := range 8 * len(b) {
			b[at/8] ^= 1 << (at % 8)
			judged(t, "a bit", b)
			b[at/8] ^= 1 << (at % 8)
		}
	}
}

func TestEachTwoBitsTurned(t *testing.T) {
	for _, p := range []rtp.Packet{{Pad: 2}, with(1, exts(1, 2), value(2), 2)} {
		b := laid(p)
		for first := range 8 * len(b) {
			b[first/8] ^= 1 << (first % 8)
			for at := range first {
				b[at/8] ^= 1 << (at % 8)
				judged(t, "two bits", b)
				b[at/8] ^= 1 << (at % 8)
			}
			b[first/8] ^= 1 << (first % 8)
		}
	}
}

func TestEachByteEdited(t *testing.T) {
	for _, p := range []rtp.Packet{{}, with(0, nil, value(3), 3), with(2, exts(3, 1, 5), value(3), 4), with(0, exts(1), nil, 0)} {
		b := laid(p)
		for at := range b {
			for v := range 256 {
				c := bytes.Clone(b)
				c[at] = byte(v)
				judged(t, "a byte", c)
				judged(t, "a byte more", slices.Insert(bytes.Clone(b), at, byte(v)))
			}
			judged(t, "a byte fewer", slices.Delete(bytes.Clone(b), at, at+1))
		}
	}
}

func TestEachPrefix(t *testing.T) {
	for _, p := range packets() {
		b := laid(p)
		for n := range b {
			judged(t, "a prefix", b[:n:n])
		}
	}
}

func TestAByteMore(t *testing.T) {
	for _, p := range packets() {
		b := laid(p)
		for v := range 256 {
			judged(t, "a byte more", append(b[:len(b):len(b)], byte(v)))
		}
	}
}

func TestTooFewBytes(t *testing.T) {
	refused(t, "nothing", nil)
	refused(t, "nothing", []byte{})
	for n := range 12 {
		for first := range 256 {
			b := make([]byte, n)
			if n > 0 {
				b[0] = byte(first)
			}
			refused(t, "fewer than 12 bytes", b)
		}
	}
}

func TestTheFirstByte(t *testing.T) {
	for _, p := range packets() {
		for first := range 256 {
			b := laid(p)
			b[0] = byte(first)
			if first < 128 || first > 191 {
				refused(t, "a first byte", b)
			} else {
				judged(t, "a first byte", b)
			}
		}
	}
}

func TestTooManyBytes(t *testing.T) {
	for _, p := range []rtp.Packet{{}, with(15, full(14, 16), nil, 0), with(1, exts(1), nil, 200), with(0, nil, nil, 1)} {
		for _, n := range []int{1501, 1502, 1600, 65536, 1 << 20} {
			q := p
			q.Payload = value(n - len(laid(p)))
			refused(t, "more than MostBytes", laid(q))
			if got, e := rtp.Head(laid(q)); got != len(laid(p))-p.Pad || e != 0 {
				t.Errorf("Head of %d bytes: %d %v", n, got, e)
			}
		}
	}
}

// Contribs, Exts and Pad that reach behind the end.
func TestWhatReachesBehindTheEnd(t *testing.T) {
	for n := 1; n <= 15; n++ {
		b := laid(with(n, nil, nil, 0))
		for cut := 12; cut < len(b); cut++ {
			refused(t, "Contribs", b[:cut])
		}
	}
	for _, list := range [][]rtp.Ext{exts(1), exts(16, 16), full(14, 16)} {
		for _, n := range []int{0, 3} {
			b := laid(with(n, list, nil, 0))
			for cut := 12 + 4*n; cut < len(b); cut++ {
				refused(t, "Exts", b[:cut])
			}
		}
	}
	for _, list := range [][]rtp.Ext{nil, exts(5)} {
		for n := range 40 {
			for pad := n + 1; pad < 256; pad++ {
				b := laid(with(1, list, make([]byte, n), 0))
				b[0] |= 32
				b[len(b)-1] = byte(pad)
				refused(t, "a Pad", b)
			}
		}
	}
}

// Where there is a bit for Pad, every last byte behind a Payload of noughts or of others.
func TestTheLastByte(t *testing.T) {
	for _, list := range [][]rtp.Ext{nil, exts(2)} {
		for _, n := range []int{0, 1, 2, 3, 100, 255, 256, 300} {
			for _, v := range []byte{0, 1, 255} {
				for last := range 256 {
					b := laid(with(0, list, slices.Repeat([]byte{v}, n), 1))
					b[len(b)-1] = byte(last)
					is := judged(t, "a last byte", b)
					if want := last > 0 && last <= n+1 && (v == 0 || last == 1); is != want {
						t.Errorf("%d behind %d of %d: %v", last, n, v, is)
					}
				}
			}
		}
	}
}

func TestPadsThatAreNotNoughts(t *testing.T) {
	for _, pad := range []int{2, 3, 8, 100, 255} {
		for _, n := range []int{0, 5} {
			good := laid(with(1, exts(1), value(n), pad))
			for at := len(good) - pad; at < len(good)-1; at++ {
				for _, v := range []byte{1, 128, 255, byte(pad)} {
					b := bytes.Clone(good)
					b[at] = v
					refused(t, "a Pad", b)
				}
			}
		}
	}
}

func TestOtherBytesThanBEDE(t *testing.T) {
	for _, n := range []int{0, 2} {
		for v := range 1 << 16 {
			b := laid(with(n, exts(2), value(1), 0))
			binary.BigEndian.PutUint16(b[12+4*n:], uint16(v))
			if is := judged(t, "be de", b); is != (v == 0xbede) {
				t.Fatalf("%x: %v", v, is)
			}
		}
	}
}

func TestTheNumberOfWords(t *testing.T) {
	for _, p := range []rtp.Packet{with(0, exts(3), nil, 0), with(1, exts(1, 7), make([]byte, 40), 0), with(0, exts(16, 2), value(30), 2), with(0, exts(3, 3, 3), nil, 255)} {
		good := laid(p)
		at := 12 + 4*len(p.Contribs) + 2
		for v := range 1 << 16 {
			b := bytes.Clone(good)
			binary.BigEndian.PutUint16(b[at:], uint16(v))
			judged(t, "a number of words", b)
		}
	}
}

// A number of words that is 0, and one more than is needed, with a word of noughts for it.
func TestWordsThatAreNotNeeded(t *testing.T) {
	for _, payload := range [][]byte{nil, value(1), make([]byte, 8)} {
		b := laid(rtp.Packet{Payload: payload})
		b[0] |= 16
		refused(t, "no words", slices.Insert(bytes.Clone(b), 12, 0xbe, 0xde, 0, 0))
		refused(t, "noughts alone", slices.Insert(bytes.Clone(b), 12, 0xbe, 0xde, 0, 1, 0, 0, 0, 0))
		for size := 1; size <= 16; size++ {
			b := laid(rtp.Packet{Payload: payload, Exts: exts(size)})
			for more := byte(1); more < 4; more++ {
				c := bytes.Clone(b)
				c[15] += more
				refused(t, "a word more", slices.Insert(c, len(b)-len(payload), make([]byte, 4*more)...))
			}
			b[15]--
			refused(t, "a word fewer", b)
		}
	}
}

// inside is the bytes of a packet in whose words these bytes stand.
func inside(words []byte, payload []byte) []byte {
	b := laid(rtp.Packet{Payload: payload})
	b[0] |= 16
	head := append([]byte{0xbe, 0xde, 0, byte(len(words) / 4)}, words...)
	return slices.Insert(b, 12, head...)
}

func TestNoughtsAmongExts(t *testing.T) {
	for noughts := 1; noughts <= 8; noughts++ {
		for _, sizes := range [][]int{{1}, {2, 3}, {3, 3, 3}, {16, 1, 2, 4}} {
			for i := range sizes {
				var words []byte
				for j, x := range exts(sizes...) {
					if j == i {
						words = append(words, make([]byte, noughts)...)
					}
					words = append(words, byte(16*x.ID+len(x.Data)-1))
					words = append(words, x.Data...)
				}
				words = append(words, make([]byte, -len(words)&3)...)
				refused(t, "noughts ahead of an Ext", inside(words, value(3)))
				refused(t, "noughts ahead of an Ext", inside(words, nil))
			}
		}
	}
}

func TestNoughtsThatAreNot(t *testing.T) {
	for _, size := range []int{1, 2, 4, 5, 6, 14} {
		words := inWords(exts(size))
		for at := 1 + size; at < len(words); at++ {
			for v := 1; v < 256; v++ {
				b := bytes.Clone(words)
				b[at] = byte(v)
				judged(t, "noughts", inside(b, value(20)))
			}
			for _, v := range []byte{1, 0x0f, 0xf0, 0xff, 0x1f, 0xe3} {
				b := bytes.Clone(words)
				b[at] = v
				refused(t, "noughts", inside(b, value(20)))
			}
		}
	}
}

func TestAnExtThatReachesBehindTheWords(t *testing.T) {
	for id := 1; id <= 14; id++ {
		for length := 1; length <= 16; length++ {
			for n := 1; n <= 4; n++ {
				words := append([]byte{byte(16*id + length - 1)}, value(4*n-1)...)
				if is := judged(t, "an Ext", inside(words, value(30))); length == 4*n-1 && !is {
					t.Errorf("%d bytes in %d words: %v", length, n, is)
				}
				if length > 4*n-1 {
					refused(t, "an Ext", inside(words, value(30)))
					refused(t, "an Ext", inside(words, nil))
				}
			}
		}
	}
}

func TestIDsThatAreNone(t *testing.T) {
	for length := 1; length <= 16; length++ {
		for _, id := range []int{0, 15} {
			if id == 0 && length == 1 {
				continue
			}
			for _, rest := range [][]int{nil, {1}, {4, 2}} {
				wrong := rtp.Ext{ID: id, Data: value(length)}
				for at := range len(rest) + 1 {
					list := slices.Insert(exts(rest...), at, wrong)
					refused(t, "an ID", inside(inWords(list), value(2)))
				}
			}
		}
	}
	for n := range 20 {
		words := append([]byte{0}, value(n)...)
		refused(t, "ID 0 of one byte", inside(append(words, make([]byte, -len(words)&3)...), nil))
	}
}

func TestMoreExtsThanMayBe(t *testing.T) {
	for _, n := range []int{15, 16, 17, 100, 700} {
		for _, size := range []int{1, 2} {
			words := inWords(full(n, size))
			if len(words) > 1480 {
				continue
			}
			for _, payload := range [][]byte{nil, value(5)} {
				b := inside(words, payload)
				binary.BigEndian.PutUint16(b[14:], uint16(len(words)/4))
				refused(t, "Exts", b)
			}
		}
	}
}

// One word of every first byte with few bytes behind it, and two words of fewer bytes, with a Payload behind and without.
func TestManyWords(t *testing.T) {
	few := []byte{0, 1, 2, 0x0f, 0x10, 0x11, 0x12, 0xe0, 0xf0, 0xff}
	for first := range 256 {
		for i := range len(few) * len(few) * len(few) {
			b := []byte{byte(first), few[i%10], few[i/10%10], few[i/100]}
			judged(t, "a word", inside(b, value(i%2*20)))
		}
	}
	fewer := []byte{0, 0x10, 0x22, 0xf1}
	for i := range 1 << 16 {
		var b []byte
		for at := range 8 {
			b = append(b, fewer[i>>(2*at)&3])
		}
		judged(t, "two words", inside(b, value(i%2*9)))
	}
}

// drawn is a good packet.
func drawn(r *rand.Rand) rtp.Packet {
	p := rtp.Packet{Marker: r.Intn(2) == 0, Type: r.Intn(128), Seq: uint16(r.Uint32()), Time: r.Uint32(), Source: r.Uint32()}
	for range r.Intn(16) * r.Intn(2) {
		p.Contribs = append(p.Contribs, r.Uint32())
	}
	for range r.Intn(15) * r.Intn(2) {
		p.Exts = append(p.Exts, rtp.Ext{ID: 1 + r.Intn(14), Data: bytesOf(r, 1+r.Intn(16))})
	}
	p.Payload = bytesOf(r, r.Intn(40))
	p.Pad = r.Intn(256) >> r.Intn(9)
	return p
}

func bytesOf(r *rand.Rand, n int) []byte {
	b := make([]byte, n)
	for i := range b {
		b[i] = byte(r.Intn(256) >> r.Intn(9))
	}
	return b
}

func TestParseUndoesBuild(t *testing.T) {
	r := rand.New(rand.NewSource(12))
	for range 20000 {
		good(t, drawn(r))
	}
}

func TestEditsOfPackets(t *testing.T) {
	r := rand.New(rand.NewSource(3))
	taken := 0
	for range 100000 {
		b := laid(drawn(r))
		for range 1 + r.Intn(3) {
			at := r.Intn(min(len(b), 60))
			switch r.Intn(4) {
			case 0:
				b = slices.Delete(b, at, min(len(b), at+1+r.Intn(4)))
			case 1:
				b = slices.Insert(b, at, bytesOf(r, 1+r.Intn(4))...)
			case 2:
				b[at] = byte(r.Intn(256) >> r.Intn(9))
			case 3:
				b[len(b)-1] = byte(r.Intn(256) >> r.Intn(9))
			}
			if len(b) == 0 {
				b = []byte{128}
			}
		}
		if judged(t, "an edit", b) {
			taken++
		}
	}
	if taken < 1000 || taken > 99000 {
		t.Error("the edits ask for too little: taken", taken)
	}
}

func TestBytesOfAnyKind(t *testing.T) {
	r := rand.New(rand.NewSource(5))
	for range 100000 {
		b := bytesOf(r, r.Intn(80))
		if len(b) > 0 && r.Intn(2) == 0 {
			b[0] = byte(128 + r.Intn(64))
		}
		judged(t, "bytes", b)
	}
}
