package rtcp_test

import (
	"bytes"
	"math/rand"
	"slices"
	"testing"

	"rostrum/rtcp"
)

func TestListsOfAllSorts(t *testing.T) {
	for _, list := range lists() {
		good(t, list...)
	}
}

// Each Kind behind each other one, and each pair of places.
func TestKindsInAllOrders(t *testing.T) {
	for a := 1; a <= 8; a++ {
		for b := 1; b <= 8; b++ {
			for c := 1; c <= 8; c++ {
				good(t, first(), sample(a, 1), sample(b, 2%(1+7*(b%7))), sample(c, 1))
			}
		}
	}
	for i := range 8 * 7 * 6 {
		order := []int{1, 2, 3, 4, 5, 6, 7, 8}
		var list []rtcp.Packet
		for n := i; len(order) > 0; n /= 8 {
			at := n % len(order)
			list = append(list, sample(order[at], 1))
			order = slices.Delete(order, at, at+1)
		}
		if list[0].Kind <= 2 {
			good(t, list...)
		} else {
			impossible(t, "a first packet", list...)
			refused(t, "a first packet", laid(list...))
		}
	}
}

func TestEachBitTurned(t *testing.T) {
	t.Parallel()
	for _, list := range lists() {
		b := laid(list...)
		for at := range 8 * len(b) {
			b[at/8] ^= 1 << (at % 8)
			judged(t, "a bit", b)
			b[at/8] ^= 1 << (at % 8)
		}
	}
}

func TestEachTwoBitsTurned(t *testing.T) {
	t.Parallel()
	for kind := 1; kind <= 8; kind++ {
		b := laid(first(), sample(kind, 1))
		for one := range 8 * len(b) {
			b[one/8] ^= 1 << (one % 8)
			for two := range one {
				b[two/8] ^= 1 << (two % 8)
				judged(t, "two bits", b)
				b[two/8] ^= 1 << (two % 8)
			}
			b[one/8] ^= 1 << (one % 8)
		}
	}
}

func TestEachByteEdited(t *testing.T) {
	t.Parallel()
	for kind := 1; kind <= 8; kind++ {
		for _, list := range [][]rtcp.Packet{{first(), sample(kind, 1)}, {first(), sample(kind, min(kind, 3)), sample(3, 2)}} {
			b := laid(list...)
			for at := range b {
				for v := range 256 {
					c := bytes.Clone(b)
					c[at] = byte(v)
					judged(t, "a byte", c)
					judged(t, "a byte more", slices.Insert(bytes.Clone(b), at, byte(v)))
				}
				judged(t, "a byte fewer", slices.Delete(bytes.Clone(b), at, at+1))
			}
		}
	}
}

// ends is where the list's packets end.
func ends(list []rtcp.Packet) []int {
	var all []int
	for n := range list {
		all = append(all, len(laid(list[:n+1]...)))
	}
	return all
}

// What ends where a packet does is a list; what ends elsewhere is none.
func TestEachPrefix(t *testing.T) {
	refused(t, "nothing", nil)
	refused(t, "nothing", []byte{})
	for _, list := range lists() {
		b, whole := laid(list...), ends(list)
		for n := range b {
			if slices.Contains(whole, n) {
				both(t, list[:slices.Index(whole, n)+1], b[:n:n])
			} else {
				refused(t, "a prefix", b[:n:n])
			}
		}
	}
}

func TestAByteMore(t *testing.T) {
	for _, list := range lists() {
		b := laid(list...)
		for v := range 256 {
			refused(t, "a byte more", append(b[:len(b):len(b)], byte(v)))
			refused(t, "a byte ahead", append([]byte{byte(v)}, b...))
		}
		for n := 1; n < 4; n++ {
			refused(t, "bytes more", append(b[:len(b):len(b)], make([]byte, n)...))
			refused(t, "bytes of a packet more", append(b[:len(b):len(b)], laid(first())[:n]...))
		}
	}
}

// A word more behind each packet, that the packet counts or doesn't, and a word fewer.
func TestAWordMore(t *testing.T) {
	words := [][]byte{{0, 0, 0, 0}, {0, 0, 0, 1}, {1, 0, 0, 0}, {255, 255, 255, 255}, {0x80, 0, 0, 0}, {0x80, 0xc9, 0, 0}, {0x81, 0xcb, 0, 0}, {0x80, 0xc9, 0, 1}, {0x7f, 0xff, 0, 0}}
	for _, list := range lists() {
		b, begin := laid(list...), 0
		for i, end := range ends(list) {
			for _, word := range words {
				more := slices.Insert(bytes.Clone(b), end, word...)
				judged(t, "a word that isn't counted", more)
				more[begin+3]++ // no packet here has 255 words
				is := judged(t, "a word that is counted", more)
				if kind := list[i].Kind; is && kind != 5 && kind != 8 {
					t.Fatalf("%d takes a word more: %x", kind, more)
				}
			}
			fewer := slices.Delete(bytes.Clone(b), end-4, end)
			judged(t, "a word fewer that is counted", fewer)
			fewer[begin+3]--
			judged(t, "a word fewer that isn't counted", fewer)
			begin = end
		}
	}
}

func TestTheFirstByte(t *testing.T) {
	for _, list := range lists() {
		b, begin := laid(list...), 0
		for i, end := range ends(list) {
			for v := range 256 {
				c := bytes.Clone(b)
				c[begin] = byte(v)
				if kind := list[i].Kind; kind < 5 && byte(v) != b[begin] || v/32 != 4 {
					refused(t, "a first byte", c)
				} else {
					judged(t, "a first byte", c)
				}
			}
			begin = end
		}
	}
}

func TestTheSecondByte(t *testing.T) {
	kinds := []int{200, 201, 202, 203, 205, 206}
	for _, list := range lists() {
		b, begin := laid(list...), 0
		for _, end := range ends(list) {
			for v := range 256 {
				c := bytes.Clone(b)
				c[begin+1] = byte(v)
				if slices.Contains(kinds, v) {
					judged(t, "a second byte", c)
				} else {
					refused(t, "a second byte", c)
				}
			}
			begin = end
		}
	}
}

// Each first byte with each second one, ahead of 0 to 8 words.
func TestEachTwoFirstBytes(t *testing.T) {
	t.Parallel()
	for size := range 9 {
		for _, v := range []byte{0, 1} {
			for i := range 1 << 16 {
				b := append([]byte{byte(i >> 8), byte(i), 0, byte(size)}, bytes.Repeat([]byte{v}, 4*size)...)
				if i>>13 != 4 {
					refused(t, "two bytes", b)
				} else {
					judged(t, "two bytes", b)
					judged(t, "two bytes", append([]byte(nine), b...))
				}
			}
		}
	}
}

func TestTheNumberOfWords(t *testing.T) {
	t.Parallel()
	for kind := 1; kind <= 8; kind++ {
		for _, list := range [][]rtcp.Packet{{first(), sample(kind, 1)}, {first(), sample(kind, min(kind, 4)), sample(7, 0)}} {
			was := laid(list...)
			for v := range 1 << 16 {
				b := bytes.Clone(was)
				b[10], b[11] = byte(v>>8), byte(v)
				if v > len(b)/4 {
					refused(t, "too many words", b)
				} else {
					judged(t, "a number of words", b)
				}
			}
		}
	}
}

func TestTooManyBytes(t *testing.T) {
	for _, n := range []int{1501, 1502, 1503, 1504, 1600, 65536, 1 << 20} {
		refused(t, "noughts", make([]byte, n))
		refused(t, "a list and noughts", append(laid(first()), make([]byte, n-8)...))
		refused(t, "many packets", bytes.Repeat([]byte(nine), n/8+1))
		b := append(laid(first()), 0x81, 0xcd, byte((n-12)/4>>8), byte((n-12)/4))
		refused(t, "many words", append(b, make([]byte, n-12)...))
	}
	for n := 2; n <= 187; n++ { // packets of 8 bytes up to 1496
		judged(t, "many packets", bytes.Repeat([]byte(nine), n))
		judged(t, "many packets of no words", append([]byte(nine), bytes.Repeat([]byte{0x80, 0xcb, 0, 0}, n)...))
		judged(t, "many packets of no Kind", append([]byte(nine), bytes.Repeat([]byte{0x80, 0xcc, 0, 0}, n)...))
	}
}

// drawnBytes is n bytes, of which many are small.
func drawnBytes(r *rand.Rand, n int) []byte {
	b := make([]byte, n)
	for i := range b {
		b[i] = byte(r.Intn(256) >> r.Intn(9))
	}
	return b
}

// drawn is a good packet of a Kind.
func drawn(r *rand.Rand, kind int) rtcp.Packet {
	p := rtcp.Packet{Kind: kind}
	if kind != 4 {
		p.Sender = r.Uint32()
	}
	if kind >= 5 {
		p.Media = r.Uint32()
	}
	switch kind {
	case 1, 2:
		for range r.Intn(32) >> r.Intn(6) {
			p.Reports = append(p.Reports, rtcp.Report{Source: r.Uint32(), Lost: byte(r.Uint32()), Total: r.Uint32() >> 8, High: r.Uint32(), Jitter: r.Uint32(), Last: r.Uint32(), Delay: r.Uint32()})
		}
		if kind == 1 {
			p.Ntp, p.Rtp, p.Packets, p.Octets = r.Uint64(), r.Uint32(), r.Uint32(), r.Uint32()
		}
	case 3:
		p.Name = string(drawnBytes(r, 1+r.Intn(64)))
	case 4:
		for range 1 + r.Intn(31) {
			p.Sources = append(p.Sources, r.Uint32())
		}
	case 5:
		at := uint16(r.Uint32())
		for range 1 + r.Intn(32) {
			p.Seqs = append(p.Seqs, at)
			at += uint16(1 + r.Intn(20+980*r.Intn(2)))
		}
	case 6:
		p.Base, p.Ref, p.Count = uint16(r.Uint32()), r.Uint32()>>8, byte(r.Uint32())
		for range 1 + r.Intn(255)>>r.Intn(8) {
			p.Arrivals = append(p.Arrivals, []int{rtcp.Lost, r.Intn(256), r.Intn(65536) - 32768, r.Intn(600) - 100}[r.Intn(4)])
		}
	case 8:
		for range 1 + r.Intn(8) {
			p.Wanted = append(p.Wanted, rtcp.Want{Source: r.Uint32(), Seq: byte(r.Uint32())})
		}
	}
	return p
}

// drawnList is a list of good packets; it may have too many bytes.
func drawnList(r *rand.Rand) []rtcp.Packet {
	list := []rtcp.Packet{drawn(r, 1+r.Intn(2))}
	for range r.Intn(8) {
		list = append(list, drawn(r, 1+r.Intn(8)))
	}
	return list
}

func TestParseUndoesBuild(t *testing.T) {
	t.Parallel()
	r := rand.New(rand.NewSource(13))
	longer := 0
	for range 15000 {
		if list := drawnList(r); fits(list) {
			good(t, list...)
		} else {
			longer++
			impossible(t, "bytes", list...)
			refused(t, "bytes", laid(list...))
		}
	}
	if longer == 0 || longer > 7500 {
		t.Error("the lists ask for too little: longer than may be", longer)
	}
}

func TestEditsOfLists(t *testing.T) {
	t.Parallel()
	r := rand.New(rand.NewSource(7))
	taken := 0
	for range 40000 {
		b := laid(drawnList(r)...)
		for range 1 + r.Intn(3) {
			at := r.Intn(min(len(b), 100))
			word := at / 4 * 4
			switch r.Intn(6) {
			case 0:
				b = slices.Delete(b, at, min(len(b), at+1+r.Intn(4)))
			case 1:
				b = slices.Insert(b, at, drawnBytes(r, 1+r.Intn(4))...)
			case 2, 3:
				b[at] = byte(r.Intn(256) >> r.Intn(9))
			case 4:
				b = slices.Insert(b, word, drawnBytes(r, 4)...)
			case 5:
				b = slices.Delete(b, word, min(len(b), word+4))
			}
			if len(b) == 0 {
				b = []byte{128}
			}
		}
		if judged(t, "an edit", b) {
			taken++
		}
	}
	if taken < 1000 || taken > 39000 {
		t.Error("the edits ask for too little: taken", taken)
	}
}

// Packets of any bytes behind two first bytes that a Kind has, with their own number of words.
func TestBodiesOfAnyKind(t *testing.T) {
	t.Parallel()
	r := rand.New(rand.NewSource(5))
	taken := 0
	for range 100000 {
		b := laid(first())
		for range 1 + r.Intn(3) {
			low := []byte{0, 1, 2, 4, 15}[r.Intn(5)]
			second := []byte{200, 201, 202, 203, 205, 205, 205, 206}[r.Intn(8)]
			words := r.Intn(8)
			b = append(b, 128+low, second, 0, byte(words))
			b = append(b, drawnBytes(r, 4*words)...)
		}
		if judged(t, "a body", b) {
			taken++
		}
	}
	if taken < 1000 || taken > 99000 {
		t.Error("the bodies ask for too little: taken", taken)
	}
}

func TestBytesOfAnyKind(t *testing.T) {
	r := rand.New(rand.NewSource(11))
	for range 100000 {
		judged(t, "bytes", drawnBytes(r, r.Intn(90)))
	}
}
