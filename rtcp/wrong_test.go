package rtcp_test

import (
	"bytes"
	"math/bits"
	"slices"
	"strings"
	"testing"

	"rostrum/api"
	"rostrum/rtcp"
)

// behind is a first packet and a packet with these first two bytes and this body.
func behind(low, second int, body ...byte) []byte {
	head := []byte{byte(128 + low), byte(second), byte(len(body) / 4 >> 8), byte(len(body) / 4)}
	return slices.Concat([]byte(nine), head, body)
}

// taken asks whether b is a list's bytes or not, as the test says.
func taken(t *testing.T, what string, b []byte, want bool) {
	t.Helper()
	if is := judged(t, what, b); is != want {
		t.Fatalf("%s: %x: %v", what, b, is)
	}
}

func TestOtherVersions(t *testing.T) {
	for _, list := range lists() {
		was, begin := laid(list...), 0
		for _, end := range ends(list) {
			for high := range 8 {
				b := bytes.Clone(was)
				b[begin] = b[begin]%32 + byte(32*high)
				taken(t, "higher bits", b, high == 4)
			}
			begin = end
		}
	}
}

// A packet with the bit for padding and bytes that would be some.
func TestPadding(t *testing.T) {
	for kind := 1; kind <= 8; kind++ {
		for pad := 4; pad <= 16; pad += 4 {
			b := laid(first(), sample(kind, 1))
			b[8] |= 32
			b[11] += byte(pad / 4)
			b = append(append(b, make([]byte, pad-1)...), byte(pad))
			refused(t, "padding", b)
		}
	}
}

// Lower bits that tell another number of Reports or Sources than there are.
func TestNumbersThatArent(t *testing.T) {
	for _, kind := range []int{1, 2, 4} {
		for _, n := range []int{1, 2, 3, 30, 31} {
			for low := range 32 {
				b := laid(first(), sample(kind, n))
				b[8] = byte(128 + low)
				taken(t, "a number", b, low == n)
			}
		}
	}
	for n := range 32 { // their own number, with more words or fewer behind
		for words := range 200 {
			body := bytes.Repeat([]byte{7}, 4*words)
			taken(t, "sender reports", behind(n, 200, body...), words == 6+6*n)
			taken(t, "receiver reports", behind(n, 201, body...), words == 1+6*n)
			taken(t, "goodbyes", behind(n, 203, body...), words == n && n > 0)
		}
	}
}

// Lower bits other than the table's.
func TestLowerBits(t *testing.T) {
	for low := range 32 {
		taken(t, "a name", behind(low, 202, 0, 0, 0, 9, 1, 1, 'a', 0), low == 1)
		taken(t, "what is missing", behind(low, 205, 0, 0, 0, 9, 0, 0, 0, 8, 0, 7, 0, 1), low == 1)
		taken(t, "arrivals", behind(low, 205, 0, 0, 0, 9, 0, 0, 0, 8, 0, 7, 0, 1, 0, 0, 5, 1, 0xd0, 0, 9, 0), low == 15)
		taken(t, "a picture that is lost", behind(low, 206, 0, 0, 0, 9, 0, 0, 0, 8), low == 1)
		taken(t, "a picture that is wanted", behind(low, 206, 0, 0, 0, 9, 0, 0, 0, 8, 0, 0, 0, 7, 6, 0, 0, 0), low == 4)
	}
}

// Bodies that lack bytes of the numbers, and pictures with more.
func TestBodiesThatLackBytes(t *testing.T) {
	for words := range 8 {
		body := make([]byte, 4*words)
		taken(t, "a sender report", behind(0, 200, body...), words == 6)
		taken(t, "a receiver report", behind(0, 201, body...), words == 1)
		refused(t, "a name", behind(1, 202, body...))
		taken(t, "what is missing", behind(1, 205, body...), words == 3)
		refused(t, "arrivals", behind(15, 205, body...))
		taken(t, "a picture that is lost", behind(1, 206, body...), words == 2)
		taken(t, "a picture that is wanted", behind(4, 206, body...), words == 4 || words == 6)
	}
	for words := range 30 {
		body := make([]byte, 4*words)
		taken(t, "pictures that are wanted", behind(4, 206, body...), words >= 4 && words <= 18 && words%2 == 0)
	}
}

// Pieces of any second one behind some first ones.
func TestTwoPieces(t *testing.T) {
	t.Parallel()
	for _, from := range []int{100, 65530} {
		for _, one := range []int{0, 1, 0x8000, 0xffff} {
			for _, two := range []int{0, 0x8000, 0x7fff} {
				for d := range 1 << 16 {
					at := from + d
					b := behind(1, 205, 1, 2, 3, 4, 5, 6, 7, 8, byte(from>>8), byte(from), byte(one>>8), byte(one), byte(at>>8), byte(at), byte(two>>8), byte(two))
					_, e := rtcp.Parse(b)
					if want := d >= 17 && d+bits.Len(uint(two)) <= 32767 && 2+bits.OnesCount(uint(one))+bits.OnesCount(uint(two)) <= 32; (e == api.OK) != want {
						t.Fatalf("%x: %v", b, e)
					}
				}
			}
		}
	}
}

// missing is a list with these pieces.
func missing(pieces string) []byte {
	return behind(1, 205, append(make([]byte, 8), pieces...)...)
}

func TestPiecesThatBuildWouldntWrite(t *testing.T) {
	for _, pieces := range []string{
		"\x00\x05\x00\x01\x00\x06\x00\x00",                 // told already
		"\x00\x05\x00\x00\x00\x05\x00\x00",                 // twice
		"\x00\x05\x80\x00\x00\x15\x00\x00",                 // told already, as the last one
		"\x00\x05\x00\x00\x00\x06\x00\x00",                 // could stand in the one ahead
		"\x00\x05\x00\x00\x00\x15\x00\x00",                 // could stand there as the last one
		"\x00\x05\x00\x01\x00\x07\x00\x00",                 // could stand there behind another
		"\x00\x05\xff\xff\x00\x15\x00\x01",                 // told already, with a new one
		"\x00\x05\x00\x01\x00\x06\x80\x00",                 // the same
		"\x00\x16\x00\x00\x00\x05\x00\x01",                 // not in order
		"\x00\x20\x00\x00\x00\x1f\x00\x00",                 // not in order
		"\x00\x20\x00\x00\x00\x40\x00\x00\x00\x30\x00\x00", // not in order behind the first
		"\x00\x20\x00\x00\x00\x40\x00\x00\x00\x40\x00\x00",
		"\x00\x20\x00\x00\x00\x40\x00\x00\x00\x20\x00\x00",
		"\x00\x20\x00\x00\x00\x40\x00\x00\x00\x50\x00\x00",
		"\x00\x00\x00\x00\x40\x00\x00\x00\x80\x00\x00\x00", // not behind the first one
		"\x00\x00\x00\x00\x40\x00\x00\x00\x7f\xf8\x00\x80",
		"\x00\x00\x00\x00\x40\x00\x00\x00\x80\x00\x00\x00\xc0\x00\x00\x00",
		"\xff\xff\x00\x01\x00\x00\x00\x00", // wraps, and is told already
		"\xff\xff\x00\x00\x00\x0f\x00\x00", // wraps, and could stand in the one ahead
		"\x00\x00\x00\x00\xff\xff\x00\x00", // wraps, but backward
		"",
	} {
		refused(t, "pieces", missing(pieces))
	}
	taken(t, "pieces", missing("\x00\x20\x00\x00\x00\x40\x00\x00\x00\x51\x00\x00"), true)
	taken(t, "pieces", missing("\x00\x00\x00\x00\x40\x00\x00\x00\x7f\xf8\x00\x40"), true)
	taken(t, "pieces", missing("\xff\xff\x00\x00\x00\x10\x00\x00"), true)
}

// Pieces that tell as many Seqs as may be, and one more, wherever it stands.
func TestPiecesOfTooMany(t *testing.T) {
	taken(t, "32", missing("\x00\x05\xff\xff\x01\x05\x7f\xfe"), true)
	refused(t, "33", missing("\x00\x05\xff\xff\x01\x05\x7f\xff"))
	refused(t, "34", missing("\x00\x05\xff\xff\x01\x05\xff\xff"))
	taken(t, "32 and 0", missing("\x00\x05\xff\xff\x01\x05\x3f\xff"), true)
	refused(t, "33", missing("\x00\x05\xff\xff\x01\x05\x3f\xff\x02\x00\x00\x00\x03\x00\x00\x00"))
	for n := 1; n <= 360; n++ {
		var pieces strings.Builder
		for i := range n {
			pieces.Write([]byte{byte(20 * i >> 8), byte(20 * i), 0, 0})
		}
		taken(t, "pieces", missing(pieces.String()), n <= 32)
	}
	refused(t, "full pieces", missing(strings.Repeat("\x00\x05\xff\xff", 360)))
}

// arrived is a list with so many Arrivals and these marks, distances and noughts.
func arrived(n int, text ...byte) []byte {
	return behind(15, 205, append([]byte{1, 2, 3, 4, 5, 6, 7, 8, 9, 10, byte(n >> 8), byte(n), 11, 12, 13, 14}, text...)...)
}

// inWords is b with noughts behind it.
func inWords(b []byte) []byte {
	return append(b, make([]byte, -len(b)&3)...)
}

// Each mark for one to seven Arrivals, with so many bytes as it tells, 3 read as no byte, one or two.
func TestEachMark(t *testing.T) {
	t.Parallel()
	for n := 1; n <= 7; n++ {
		for mark := range 1 << 16 {
			for three := range 3 {
				text := []byte{byte(mark >> 8), byte(mark)}
				want, has3 := mark>>14 == 3 && mark<<(2+2*n)&0xffff == 0, false
				for i := range n {
					sort := mark >> (12 - 2*i) & 3
					has3 = has3 || sort == 3
					if sort == 3 {
						sort = three
					}
					text = append(text, bytes.Repeat([]byte{7}, sort)...)
				}
				if !has3 && three > 0 {
					continue
				}
				b := arrived(n, inWords(text)...)
				if _, e := rtcp.Parse(b); (e == api.OK) != (want && !has3) {
					t.Fatalf("%x: %v", b, e)
				}
			}
		}
	}
}

// Each second mark behind one of seven that are Lost.
func TestEachSecondMark(t *testing.T) {
	t.Parallel()
	for n := 8; n <= 14; n++ {
		for mark := range 1 << 16 {
			text := []byte{0xc0, 0, byte(mark >> 8), byte(mark)}
			want := mark>>14 == 3 && mark<<(2+2*(n-7))&0xffff == 0
			for i := range n - 7 {
				sort := mark >> (12 - 2*i) & 3
				want = want && sort != 3
				text = append(text, bytes.Repeat([]byte{9}, sort)...)
			}
			b := arrived(n, inWords(text)...)
			if _, e := rtcp.Parse(b); (e == api.OK) != want {
				t.Fatalf("%x: %v", b, e)
			}
		}
	}
}

// Each distance of two bytes: those from 0 to 255 would have one.
func TestEachDistance(t *testing.T) {
	t.Parallel()
	for d := range 1 << 16 {
		for at := range 8 {
			mark, text := 0xc000, []byte(nil)
			for i := range 7 {
				if i == at {
					mark += 2 << (12 - 2*i)
					text = append(text, byte(d>>8), byte(d))
				}
			}
			text = append([]byte{byte(mark >> 8), byte(mark), 0xc0, 0}, text...)
			if at == 7 {
				text = []byte{0xc0, 0, 0xe0, 0, byte(d >> 8), byte(d)}
			}
			b := arrived(8, inWords(text)...)
			if _, e := rtcp.Parse(b); (e == api.OK) != (d > 255) {
				t.Fatalf("%x: %v", b, e)
			}
		}
	}
	for d := range 256 {
		taken(t, "a distance of a byte", arrived(1, 0xd0, 0, byte(d), 0), true)
		taken(t, "two", arrived(2, 0xd4, 0, 7, byte(d)), true)
	}
}

// Each number of Arrivals ahead of the same marks and distances.
func TestTheNumberOfArrivals(t *testing.T) {
	t.Parallel()
	text := inWords([]byte{0xd5, 0x55, 0xd5, 0x40, 1, 2, 3, 4, 5, 6, 7, 8, 9, 10, 11}) // 11 of a byte
	for n := range 1 << 16 {
		taken(t, "a number", arrived(n, text...), n >= 11 && n <= 14) // those behind are Lost
	}
	for n := range 1 << 16 {
		taken(t, "a number of those that are Lost", arrived(n, 0xc0, 0, 0xc0, 0), n >= 8 && n <= 14)
	}
}

// Marks of more Arrivals than may be, with all the bytes that they tell.
func TestMoreArrivalsThanMayBe(t *testing.T) {
	for n := 1; n < 1400; n++ {
		var text []byte
		for range (n + 6) / 7 {
			text = append(text, 0xc0, 0)
		}
		taken(t, "Arrivals", arrived(n, inWords(text)...), n <= 255)
	}
}

// each turns one byte of b, from one place up to another, into every other one.
func each(b []byte, from, to int, ask func(b []byte)) {
	for at := from; at < to; at++ {
		for v := range 256 {
			c := bytes.Clone(b)
			if c[at] = byte(v); byte(v) != b[at] {
				ask(c)
			}
		}
	}
}

func TestNoughtsThatAreNot(t *testing.T) {
	no := func(b []byte) { refused(t, "noughts", b) }
	for n := 1; n <= 12; n++ {
		for _, rest := range [][]rtcp.Packet{nil, {first()}} {
			p := rtcp.Packet{Kind: 3, Name: strings.Repeat("x", n)}
			b, end := laid(append([]rtcp.Packet{first(), p}, rest...)...), len(laid(first(), p))
			each(b, 8+4+4+2+n, end, no)
			for _, a := range []int{rtcp.Lost, 5, 500} {
				q := rtcp.Packet{Kind: 6, Arrivals: slices.Repeat([]int{a}, n)}
				b, end := laid(append([]rtcp.Packet{first(), q}, rest...)...), len(laid(first(), q))
				used := 2 * ((n + 6) / 7)
				if a == 5 {
					used += n
				} else if a == 500 {
					used += 2 * n
				}
				each(b, 8+20+used, end, no)
			}
		}
	}
	for n := 1; n <= 8; n++ {
		for _, rest := range [][]rtcp.Packet{nil, {first()}} {
			b := laid(append([]rtcp.Packet{first(), sample(8, n)}, rest...)...)
			for i := range n {
				each(b, 8+12+8*i+5, 8+12+8*i+8, no)
			}
		}
	}
}

// Words of noughts more than are needed, or fewer, that are counted.
func TestNoughtsTooManyOrTooFew(t *testing.T) {
	for n := 1; n <= 64; n++ {
		for words := range 24 {
			body := append([]byte{0, 0, 0, 9, 1, byte(n)}, strings.Repeat("x", n)...)
			own := (len(body) + 4) / 4
			body = append(body, make([]byte, 100)...)[:4*words]
			taken(t, "a name", behind(1, 202, body...), words == own)
		}
	}
	for n := 1; n <= 20; n++ {
		for _, a := range []int{rtcp.Lost, 5, 500} {
			own := laid(rtcp.Packet{Kind: 6, Arrivals: slices.Repeat([]int{a}, n)})[4:]
			for words := range 40 {
				body := append(bytes.Clone(own), make([]byte, 200)...)[:4*words]
				taken(t, "arrivals", behind(15, 205, body...), words == len(own)/4)
			}
		}
	}
}

// Each length of a Name: where the noughts let a longer one stand, that is another Name.
func TestLengthsThatAreNotTheNames(t *testing.T) {
	for n := 1; n <= 64; n++ {
		for length := range 256 {
			b := laid(first(), rtcp.Packet{Kind: 3, Name: strings.Repeat("x", n)})
			noughts := len(b) - (18 + n)
			b[17] = byte(length)
			taken(t, "a length", b, length >= n && length < n+noughts && length <= 64)
		}
	}
	each(laid(first(), rtcp.Packet{Kind: 3, Name: "abc"}), 16, 17, func(b []byte) { refused(t, "another byte than 1", b) })
}

// Names that aren't a packet's only field, by RFC 3550's words, or have none.
func TestOtherFieldsThanAName(t *testing.T) {
	for _, body := range []string{
		"\x00\x00\x00\x00",
		"\x01\x00\x00\x00",
		"\x02\x01a\x00",
		"\x08\x01a\x00",
		"\x01\x01a\x01\x01b\x00\x00",
		"\x01\x01a\x02\x01b\x00\x00",
		"\x01\x02ab",
		"\x01\x03ab\x00",
		"\x01\x02ab\x00\x00\x00\x00\x00\x00\x00\x00",
	} {
		refused(t, "fields", behind(1, 202, append([]byte{0, 0, 0, 9}, body...)...))
	}
	taken(t, "a field", behind(1, 202, 0, 0, 0, 9, 1, 2, 'a', 0, 0, 0, 0, 0), true)
}
