package srtp_test

import (
	"bytes"
	"encoding/hex"
	"slices"
	"testing"

	"rostrum/api"
	"rostrum/srtp"
)

func TestProtectPublished(t *testing.T) {
	x, e := srtp.New(published).Protect(fromHex(plainMedia))
	if e != api.OK || hex.EncodeToString(x) != sealedMedia {
		t.Errorf("%x, %v", x, e)
	}
}

// The chapter's example, which is RFC 3711's of B.3, and of B.2's kind: what noughts are protected to is the stream itself.
func TestProtectNoughts(t *testing.T) {
	c := srtp.New(published)
	b := append(packet(0, 0, 0), make([]byte, 32)...)
	x, e := c.Protect(b)
	want := media(published, b, 0)
	if e != api.OK || !bytes.Equal(x[:44], want) || !bytes.Equal(x[:12], b[:12]) {
		t.Errorf("%x, %v, not %x", x, e, want)
	}
}

func TestProtectPacketsOfAllSorts(t *testing.T) {
	for _, key := range keys() {
		p := newPair(key)
		for _, b := range packets(0xfedcba98) {
			x := p.gives(t, protect, b, api.OK)
			if len(x) != len(b)+10 {
				t.Fatalf("%d bytes of %d", len(x), len(b))
			}
		}
	}
}

func TestProtectEveryLengthOfPayload(t *testing.T) {
	p := newPair(someKey())
	for n := range 1479 {
		p.gives(t, protect, packet(7, uint16(n), n), api.OK)
	}
}

// Each bit of the source and of the sequence number has its own stream and tag.
func TestProtectEveryBit(t *testing.T) {
	for bit := range 32 {
		for _, flip := range []uint32{0, 0xffffffff} {
			p := newPair(published)
			p.gives(t, protect, packet(1<<bit^flip, 1<<(bit%16)^uint16(flip), 40), api.OK)
		}
	}
}

func TestProtectWhatHeadRefuses(t *testing.T) {
	p := newPair(someKey())
	for n := range 12 {
		p.gives(t, protect, packet(5, 1, 0)[:n], api.ErrForm)
	}
	for first := range 256 {
		b := append([]byte{byte(first)}, make([]byte, 111)...)
		want := api.ErrForm
		if first >= 128 && first < 192 {
			want = api.OK
		}
		p.gives(t, protect, b, want)
	}
	for _, n := range []int{0, 1, 3, 4, 7, 8, 1478, 1479, 1488, 1489, 5000, 100000} {
		b := packet(6, 1, n)
		b[0] = 0x1f
		p.gives(t, protect, b, api.ErrForm)
		b = append([]byte{0xbf}, packet(6, 1, 0)[1:]...)
		b = append(b, bytes.Repeat([]byte{0xff}, n)...)
		p.gives(t, protect, b, api.ErrForm)
	}
	p.gives(t, protect, nil, api.ErrForm)
}

// An extension that takes all, one word more, and all of the Contribs.
func TestProtectHeads(t *testing.T) {
	p := newPair(someKey())
	for contribs := range 16 {
		for n := range 90 {
			for words := range 3 {
				b := packet(5, uint16(n), n)
				b[0] = 0x90 + byte(contribs)
				if at := 12 + 4*contribs + 2; at+2 <= len(b) {
					b[at], b[at+1] = 0, byte(words)
				}
				p.do(t, protect, b)
			}
		}
	}
}

func TestProtectTooLarge(t *testing.T) {
	p := newPair(someKey())
	for n := 1470; n < 1520; n++ {
		want := api.OK
		if n > 1490 {
			want = api.ErrLarge
		}
		p.gives(t, protect, packet(5, 1, n-12), want)
	}
	for _, n := range []int{2980, 65536, 65549, 1 << 20} {
		p.gives(t, protect, packet(5, 1, n), api.ErrLarge)
	}
}

// Sources that come when there are MostSources find no room, as long as the context is.
func TestProtectTooManySources(t *testing.T) {
	p := newPair(someKey())
	for i := range uint32(16) {
		p.gives(t, protect, packet(i*0x01010101, 100, 5), api.OK)
	}
	for i := range uint32(40) {
		want := api.OK
		if i >= 16 {
			want = api.ErrFull
		}
		p.gives(t, protect, packet(i*0x01010101, 101, 5), want)
		p.gives(t, protect, packet(i*0x01010101, 99, 5), want)
	}
	p.gives(t, protect, packet(0xffffffff, 101, 1479), api.ErrLarge)
	p.gives(t, protect, packet(0xffffffff, 101, 0)[:11], api.ErrForm)
	p.gives(t, protect, packet(0, 40000, 0), api.ErrOld)
	p.gives(t, protect, packet(0xffffffff, 40000, 0), api.ErrFull)
}

// seqs are sequence numbers that lie about seq, about what is furthest from it, and elsewhere.
func seqs(seq uint16) []uint16 {
	var list []uint16
	for _, x := range []uint16{seq, seq + 32768, 0} {
		for d := range uint16(6) {
			list = append(list, x+d, x-d)
		}
	}
	for d := range uint16(80) {
		list = append(list, seq-d, seq+d*811)
	}
	slices.Sort(list)
	return slices.Compact(list)
}

// Each sequence number behind a first one: those that would be below 0 are refused.
func TestProtectBehindAFirstOne(t *testing.T) {
	for _, first := range []uint16{0, 1, 2, 63, 64, 65, 1000, 32766, 32767, 32768, 32769, 65000, 65535} {
		for _, seq := range seqs(first) {
			p := newPair(someKey())
			p.gives(t, protect, packet(5, first, 3), api.OK)
			far := int(int16(seq - first))
			want := api.OK
			if int(first)+far < 0 {
				want = api.ErrOld
			}
			p.gives(t, protect, packet(5, seq, 3), want)
			p.gives(t, protect, packet(5, first, 3), api.OK)
			p.gives(t, protect, packet(5, first+1, 3), api.OK)
		}
	}
}

// Each of all sequence numbers behind one that has wrapped, whose greatest index stays.
func TestProtectEverySequenceNumber(t *testing.T) {
	p := newPair(someKey())
	for seq := range 65536 {
		p.have(5, 3*65536+40000)
		p.do(t, protect, packet(5, uint16(seq), 1))
	}
}

// At the last indexes, and about those at which the index's bytes carry.
func TestProtectAtTheLastIndexes(t *testing.T) {
	p := newPair(someKey())
	for _, greatest := range indexes() {
		for _, seq := range seqs(uint16(greatest)) {
			p.have(5, greatest)
			p.do(t, protect, packet(5, seq, 17))
			p.do(t, protect, packet(5, uint16(greatest+1), 2))
		}
	}
	p.have(5, maxIndex)
	p.gives(t, protect, packet(5, 0, 3), api.ErrOld)
	p.gives(t, protect, packet(5, 32766, 3), api.ErrOld)
	p.gives(t, protect, packet(5, 65535, 3), api.OK)
	p.gives(t, protect, packet(5, 32767, 3), api.OK)
	p.gives(t, protect, packet(5, 0, 3), api.ErrOld)
}

// indexes are those at which bytes of the index carry, and those at both ends.
func indexes() []int64 {
	list := []int64{0, 1, 62, 63, 64, 65, 32767, 32768, 32769}
	for _, bit := range []int{16, 24, 31, 32, 33, 40, 47, 48} {
		for _, d := range []int64{-32769, -32768, -32767, -70, -65, -64, -63, -2, -1, 0, 1, 70, 32768} {
			if x := int64(1)<<bit + d; x >= 0 && x <= maxIndex {
				list = append(list, x)
			}
		}
	}
	return list
}

// Sequence numbers rise over their end again and again: the tag and the stream are of the index.
func TestProtectWraps(t *testing.T) {
	p := newPair(someKey())
	var last []byte
	for i := range 3000 {
		x := p.gives(t, protect, packet(5, uint16(60000+i*97), 4), api.OK)
		if bytes.Equal(x[2:], last) {
			t.Fatal("the same again")
		}
		last = x[2:]
	}
	for i := range 300 {
		p.gives(t, protect, packet(6, uint16(i*32767), 4), api.OK)
	}
	// Those behind the end don't wrap back.
	p.gives(t, protect, packet(7, 65535, 4), api.OK)
	p.gives(t, protect, packet(7, 1, 4), api.OK)
	p.gives(t, protect, packet(7, 65534, 4), api.OK)
	p.gives(t, protect, packet(7, 2, 4), api.OK)
	if p.kept[protect][7].greatest != 65538 || p.kept[protect][5].greatest != 60000+2999*97 {
		t.Error("the test's own indexes")
	}
}

// The same bytes are protected to the same, as long as they have the same index, and to others if they don't.
func TestProtectTwice(t *testing.T) {
	p := newPair(someKey())
	b := packet(5, 1000, 20)
	first := p.gives(t, protect, b, api.OK)
	for i := range 70 {
		p.gives(t, protect, packet(5, 1001+uint16(i), 20), api.OK)
		if again := p.gives(t, protect, b, api.OK); !bytes.Equal(again, first) {
			t.Fatalf("%x, not %x", again, first)
		}
	}
	p.gives(t, protect, packet(5, 1000+32767, 20), api.OK)
	if again := p.gives(t, protect, b, api.OK); !bytes.Equal(again, first) {
		t.Fatalf("%x, not %x", again, first)
	}
	p.gives(t, protect, packet(5, 1000+32769, 20), api.OK)
	if again := p.gives(t, protect, b, api.OK); bytes.Equal(again[12:], first[12:]) {
		t.Fatalf("%x", again)
	}
}

// What is refused leaves the greatest index and the sources as they are.
func TestProtectRefusedChangesNothing(t *testing.T) {
	p := newPair(someKey())
	p.gives(t, protect, packet(5, 10, 3), api.OK)
	p.gives(t, protect, packet(5, 20000, 1479), api.ErrLarge)
	p.gives(t, protect, packet(5, 40000, 3), api.ErrOld)
	p.gives(t, protect, packet(5, 32777, 3), api.OK)
	p.gives(t, protect, packet(5, 10, 3), api.OK)
	for i := range uint32(30) {
		p.gives(t, protect, packet(100+i, 1, 1479), api.ErrLarge)
	}
	for i := range uint32(15) {
		p.gives(t, protect, packet(200+i, 1, 3), api.OK)
	}
	p.gives(t, protect, packet(300, 1, 3), api.ErrFull)
}
