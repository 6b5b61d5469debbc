package rtcp_test

import (
	"bytes"
	"slices"
	"strings"
	"testing"

	"rostrum/rtcp"
)

// nine is the bytes of first.
const nine = "\x80\xc9\x00\x01\x00\x00\x00\x09"

// written asks whether a packet's bytes are these, alone, if it may stand alone, and behind another one.
func written(t *testing.T, p rtcp.Packet, b string) {
	t.Helper()
	both(t, []rtcp.Packet{first(), p}, []byte(nine+b))
	both(t, []rtcp.Packet{first(), p, first()}, []byte(nine+b+nine))
	if p.Kind <= 2 {
		both(t, []rtcp.Packet{p}, []byte(b))
	}
}

func TestReportsWritten(t *testing.T) {
	one := rtcp.Report{Source: 0x01020304, Lost: 5, Total: 0x060708, High: 0x090a0b0c, Jitter: 0x0d0e0f10, Last: 0x11121314, Delay: 0x15161718}
	two := rtcp.Report{Source: 0xfffefdfc, Lost: 0xfb, Total: 0xfaf9f8, High: 0xf7f6f5f4, Jitter: 0xf3f2f1f0, Last: 0xefeeedec, Delay: 0xebeae9e8}
	oneBytes := "\x01\x02\x03\x04\x05\x06\x07\x08\x09\x0a\x0b\x0c\x0d\x0e\x0f\x10\x11\x12\x13\x14\x15\x16\x17\x18"
	twoBytes := "\xff\xfe\xfd\xfc\xfb\xfa\xf9\xf8\xf7\xf6\xf5\xf4\xf3\xf2\xf1\xf0\xef\xee\xed\xec\xeb\xea\xe9\xe8"
	written(t, rtcp.Packet{Kind: 2}, "\x80\xc9\x00\x01\x00\x00\x00\x00")
	p := rtcp.Packet{Kind: 2, Sender: 0x31323334}
	written(t, p, "\x80\xc9\x00\x011234")
	p.Reports = []rtcp.Report{one}
	written(t, p, "\x81\xc9\x00\x071234"+oneBytes)
	p.Reports = []rtcp.Report{two, one}
	written(t, p, "\x82\xc9\x00\x0d1234"+twoBytes+oneBytes)
	p.Reports = slices.Repeat([]rtcp.Report{one}, 31)
	written(t, p, "\x9f\xc9\x00\xbb1234"+strings.Repeat(oneBytes, 31))

	written(t, rtcp.Packet{Kind: 1}, "\x80\xc8\x00\x06"+strings.Repeat("\x00", 24))
	p = rtcp.Packet{Kind: 1, Sender: 0x31323334, Ntp: 0x4142434445464748, Rtp: 0x51525354, Packets: 0x61626364, Octets: 0x71727374}
	written(t, p, "\x80\xc8\x00\x061234ABCDEFGHQRSTabcdqrst")
	p.Reports = []rtcp.Report{one, two}
	written(t, p, "\x82\xc8\x00\x121234ABCDEFGHQRSTabcdqrst"+oneBytes+twoBytes)
	p.Reports = slices.Repeat([]rtcp.Report{two}, 31)
	written(t, p, "\x9f\xc8\x00\xc01234ABCDEFGHQRSTabcdqrst"+strings.Repeat(twoBytes, 31))
}

func TestNamesWritten(t *testing.T) {
	written(t, rtcp.Packet{Kind: 3, Sender: 0x31323334, Name: "a"}, "\x81\xca\x00\x021234\x01\x01a\x00")
	written(t, rtcp.Packet{Kind: 3, Sender: 0x31323334, Name: "ab"}, "\x81\xca\x00\x031234\x01\x02ab\x00\x00\x00\x00")
	written(t, rtcp.Packet{Kind: 3, Sender: 0x31323334, Name: "abc"}, "\x81\xca\x00\x031234\x01\x03abc\x00\x00\x00")
	written(t, rtcp.Packet{Kind: 3, Sender: 0x31323334, Name: "abcd"}, "\x81\xca\x00\x031234\x01\x04abcd\x00\x00")
	written(t, rtcp.Packet{Kind: 3, Sender: 0x31323334, Name: "abcde"}, "\x81\xca\x00\x031234\x01\x05abcde\x00")
	written(t, rtcp.Packet{Kind: 3, Sender: 0x31323334, Name: "abcdef"}, "\x81\xca\x00\x041234\x01\x06abcdef\x00\x00\x00\x00")
	written(t, rtcp.Packet{Kind: 3, Name: "\x00"}, "\x81\xca\x00\x02\x00\x00\x00\x00\x01\x01\x00\x00")
	written(t, rtcp.Packet{Kind: 3, Name: "\x00\x00"}, "\x81\xca\x00\x03\x00\x00\x00\x00\x01\x02\x00\x00\x00\x00\x00\x00")
}

// A Name of each length, with so many noughts that they end a word, at least one.
func TestNamesOfEachLength(t *testing.T) {
	seen := map[int]int{}
	for n := 1; n <= 64; n++ {
		noughts := 1
		for (2+n+noughts)%4 != 0 {
			noughts++
		}
		seen[noughts]++
		for _, text := range []string{strings.Repeat("x", n), strings.Repeat("\x00", n), strings.Repeat("\xff", n), name(n)} {
			head := []byte{0x81, 0xca, 0, byte(1 + (2+n+noughts)/4), 0x31, 0x32, 0x33, 0x34, 1, byte(n)}
			written(t, rtcp.Packet{Kind: 3, Sender: 0x31323334, Name: text}, string(head)+text+strings.Repeat("\x00", noughts))
		}
	}
	if len(seen) != 4 || seen[1] != 16 || seen[4] != 16 {
		t.Error("the test's own noughts:", seen)
	}
}

// A Name may hold any bytes.
func TestNamesOfAllBytes(t *testing.T) {
	for v := range 256 {
		good(t, first(), rtcp.Packet{Kind: 3, Name: string([]byte{byte(v)})})
		good(t, first(), rtcp.Packet{Kind: 3, Name: "ab" + string([]byte{byte(v)})})
		good(t, first(), rtcp.Packet{Kind: 3, Name: string([]byte{byte(v), 0, 'c', byte(v)})})
	}
}

func TestGoodbyesWritten(t *testing.T) {
	written(t, rtcp.Packet{Kind: 4, Sources: []uint32{0}}, "\x81\xcb\x00\x01\x00\x00\x00\x00")
	written(t, rtcp.Packet{Kind: 4, Sources: []uint32{0x31323334, 0x41424344}}, "\x82\xcb\x00\x021234ABCD")
	written(t, rtcp.Packet{Kind: 4, Sources: slices.Repeat([]uint32{0x41424344}, 31)}, "\x9f\xcb\x00\x1f"+strings.Repeat("ABCD", 31))
}

func TestPicturesWritten(t *testing.T) {
	written(t, rtcp.Packet{Kind: 7}, "\x81\xce\x00\x02"+strings.Repeat("\x00", 8))
	written(t, rtcp.Packet{Kind: 7, Sender: 0x31323334, Media: 0x41424344}, "\x81\xce\x00\x021234ABCD")
	p := rtcp.Packet{Kind: 8, Sender: 0x31323334, Media: 0x41424344, Wanted: []rtcp.Want{{Source: 0x61626364, Seq: 0x65}}}
	written(t, p, "\x84\xce\x00\x041234ABCDabcde\x00\x00\x00")
	p.Wanted = append(p.Wanted, rtcp.Want{Source: 0x71727374, Seq: 0xff}, rtcp.Want{})
	written(t, p, "\x84\xce\x00\x081234ABCDabcde\x00\x00\x00qrst\xff\x00\x00\x00"+strings.Repeat("\x00", 8))
	p.Wanted = slices.Repeat(p.Wanted[:1], 8)
	written(t, p, "\x84\xce\x00\x121234ABCD"+strings.Repeat("abcde\x00\x00\x00", 8))
}

// pieced asks whether Seqs are told by these pieces.
func pieced(t *testing.T, list []uint16, pieces string) {
	t.Helper()
	head := string([]byte{0x81, 0xcd, 0, byte(2 + len(pieces)/4)})
	written(t, rtcp.Packet{Kind: 5, Sender: 0x31323334, Media: 0x41424344, Seqs: list}, head+"1234ABCD"+pieces)
}

func TestPiecesWritten(t *testing.T) {
	pieced(t, []uint16{0}, "\x00\x00\x00\x00")
	pieced(t, []uint16{5, 6, 22}, "\x00\x05\x00\x01\x00\x16\x00\x00")
	pieced(t, []uint16{5, 21}, "\x00\x05\x80\x00")
	pieced(t, []uint16{5, 22}, "\x00\x05\x00\x00\x00\x16\x00\x00")
	pieced(t, []uint16{5, 21, 22}, "\x00\x05\x80\x00\x00\x16\x00\x00")
	pieced(t, []uint16{5, 21, 22, 38}, "\x00\x05\x80\x00\x00\x16\x80\x00")
	pieced(t, []uint16{5, 22, 39}, "\x00\x05\x00\x00\x00\x16\x00\x00\x00\x27\x00\x00")
	pieced(t, []uint16{0x0102, 0x0103, 0x0105, 0x0109}, "\x01\x02\x00\x45")
	pieced(t, seqs(0x0100, 17, 1), "\x01\x00\xff\xff")
	pieced(t, seqs(0x0100, 18, 1), "\x01\x00\xff\xff\x01\x11\x00\x00")
	pieced(t, seqs(0x0100, 32, 1), "\x01\x00\xff\xff\x01\x11\x3f\xff")
	pieced(t, []uint16{65535, 0}, "\xff\xff\x00\x01")
	pieced(t, []uint16{65535, 15}, "\xff\xff\x80\x00")
	pieced(t, []uint16{65535, 16}, "\xff\xff\x00\x00\x00\x10\x00\x00")
	pieced(t, seqs(65530, 17, 1), "\xff\xfa\xff\xff")
	pieced(t, seqs(65530, 20, 1), "\xff\xfa\xff\xff\x00\x0b\x00\x03")
	pieced(t, []uint16{65520, 0, 1}, "\xff\xf0\x80\x00\x00\x01\x00\x00")
	pieced(t, []uint16{65519, 0, 1}, "\xff\xef\x00\x00\x00\x00\x00\x01")
	pieced(t, []uint16{0, 32767}, "\x00\x00\x00\x00\x7f\xff\x00\x00")
	pieced(t, []uint16{32768, 65535}, "\x80\x00\x00\x00\xff\xff\x00\x00")
	pieced(t, []uint16{32769, 0}, "\x80\x01\x00\x00\x00\x00\x00\x00")
	var apart string
	for i := range 32 {
		at := 1000 + 17*i
		apart += string([]byte{byte(at >> 8), byte(at), 0, 0})
	}
	pieced(t, seqs(1000, 32, 17), apart)
}

// Each row of bits behind a first Seq that ends where it has 31 or fewer.
func TestEachPiece(t *testing.T) {
	for _, from := range []uint16{0, 65528} {
		for mask := range 1 << 16 {
			list := []uint16{from}
			for i := range uint16(16) {
				if mask>>i&1 == 1 {
					list = append(list, from+1+i)
				}
			}
			p := rtcp.Packet{Kind: 5, Seqs: list}
			want := slices.Concat([]byte(nine), []byte("\x81\xcd\x00\x03"), make([]byte, 8), []byte{byte(from >> 8), byte(from), byte(mask >> 8), byte(mask)})
			if b, _ := rtcp.Build([]rtcp.Packet{first(), p}); !bytes.Equal(b, want) {
				t.Fatalf("%v: %x, not %x", list, b, want)
			}
			both(t, []rtcp.Packet{first(), p}, want)
		}
	}
}

// marked asks whether Arrivals are told by these marks and distances, with the noughts behind them.
func marked(t *testing.T, list []int, text string) {
	t.Helper()
	head := string([]byte{0x8f, 0xcd, 0, byte(4 + len(text)/4)})
	p := rtcp.Packet{Kind: 6, Sender: 0x31323334, Media: 0x41424344, Base: 0x6162, Ref: 0x717273, Count: 0x74, Arrivals: list}
	written(t, p, head+"1234ABCDab"+string([]byte{0, byte(len(list))})+"qrst"+text)
}

func TestMarksWritten(t *testing.T) {
	lost := func(n int) []int { return slices.Repeat([]int{rtcp.Lost}, n) }
	marked(t, lost(1), "\xc0\x00\x00\x00")
	marked(t, lost(7), "\xc0\x00\x00\x00")
	marked(t, lost(8), "\xc0\x00\xc0\x00")
	marked(t, lost(14), "\xc0\x00\xc0\x00")
	marked(t, lost(15), "\xc0\x00\xc0\x00\xc0\x00\x00\x00")
	marked(t, lost(255), strings.Repeat("\xc0\x00", 37)+"\x00\x00")
	marked(t, []int{0}, "\xd0\x00\x00\x00")
	marked(t, []int{255}, "\xd0\x00\xff\x00")
	marked(t, []int{256}, "\xe0\x00\x01\x00")
	marked(t, []int{-1}, "\xe0\x00\xff\xff")
	marked(t, []int{-32768}, "\xe0\x00\x80\x00")
	marked(t, []int{32767}, "\xe0\x00\x7f\xff")
	marked(t, []int{5, rtcp.Lost, 300}, "\xd2\x00\x05\x01\x2c\x00\x00\x00")
	marked(t, []int{1, 2}, "\xd4\x00\x01\x02")
	marked(t, []int{1, 2, 3}, "\xd5\x00\x01\x02\x03\x00\x00\x00")
	marked(t, []int{1, 2, 3, 4}, "\xd5\x40\x01\x02\x03\x04\x00\x00")
	marked(t, []int{1, 2, 3, 4, 5}, "\xd5\x50\x01\x02\x03\x04\x05\x00")
	marked(t, []int{1, 2, 3, 4, 5, 6}, "\xd5\x54\x01\x02\x03\x04\x05\x06")
	marked(t, []int{1, 2, 3, 4, 5, 6, 7}, "\xd5\x55\x01\x02\x03\x04\x05\x06\x07\x00\x00\x00")
	marked(t, []int{1, 2, 3, 4, 5, 6, 7, 8}, "\xd5\x55\xd0\x00\x01\x02\x03\x04\x05\x06\x07\x08")
	marked(t, []int{-2, -2, -2, -2, -2, -2, -2}, "\xea\xaa"+strings.Repeat("\xff\xfe", 7))
	marked(t, []int{rtcp.Lost, 5, 256, -1, 255, 0, 0, 1}, "\xc6\x95\xd0\x00\x05\x01\x00\xff\xff\xff\x00\x00\x01\x00\x00\x00")
	marked(t, append(lost(14), 9), "\xc0\x00\xc0\x00\xd0\x00\x09\x00")
}

// Rows of 1 to 15 Arrivals of each sort, and of all three in turn from each sort on.
func TestArrivalsOfEachNumber(t *testing.T) {
	sorts := []int{rtcp.Lost, 77, -300}
	for n := 1; n <= 15; n++ {
		for _, rows := range [][]int{{0}, {1}, {2}, {0, 1, 2}, {1, 2, 0}, {2, 0, 1}, {0, 0, 1}, {2, 2, 1, 1}} {
			var list []int
			for i := range n {
				list = append(list, sorts[rows[i%len(rows)]])
			}
			text := []byte(nil)
			for at := 0; at < n; at += 7 {
				mark := 0xc000
				for i := at; i < min(n, at+7); i++ {
					mark += rows[i%len(rows)] << (12 - 2*(i-at))
				}
				text = append(text, byte(mark>>8), byte(mark))
			}
			for i := range n {
				text = append(text, []string{"", "\x4d", "\xfe\xd4"}[rows[i%len(rows)]]...)
			}
			text = append(text, make([]byte, (4-len(text)%4)%4)...)
			marked(t, list, string(text))
		}
	}
}

// All rows of six Arrivals of the three sorts, and of nine.
func TestRowsOfArrivals(t *testing.T) {
	sorts := []int{rtcp.Lost, 200, 400}
	for i := range 19683 {
		var list []int
		for n := i; len(list) < 9; n /= 3 {
			list = append(list, sorts[n%3])
		}
		good(t, first(), rtcp.Packet{Kind: 6, Arrivals: list[:6]})
		good(t, first(), rtcp.Packet{Kind: 6, Arrivals: list})
	}
}
