package rtp_test

import (
	"math"
	"slices"
	"testing"

	"rostrum/rtp"
)

func TestExamples(t *testing.T) {
	zero := "\x80\x00" + "\x00\x00\x00\x00\x00\x00\x00\x00\x00\x00"
	both(t, rtp.Packet{}, []byte(zero))
	both(t, rtp.Packet{Pad: 1}, []byte("\xa0"+zero[1:]+"\x01"))
	both(t, rtp.Packet{Pad: 3, Payload: []byte{0, 0}}, []byte("\xa0"+zero[1:]+"\x00\x00\x00\x00\x03"))
	p := plain()
	head := "\xe0\x01\x02\x03\x04\x05\x06\x07\x08\x09\x0a"
	both(t, p, []byte("\x80"+head))
	p.Contribs = []uint32{0x0b0c0d0e, 0xfffefdfc}
	both(t, p, []byte("\x82"+head+"\x0b\x0c\x0d\x0e\xff\xfe\xfd\xfc"))
	p.Exts = []rtp.Ext{{ID: 14, Data: []byte("xyz")}}
	both(t, p, []byte("\x92"+head+"\x0b\x0c\x0d\x0e\xff\xfe\xfd\xfc\xbe\xde\x00\x01\xe2xyz"))
	p.Exts = append(p.Exts, rtp.Ext{ID: 1, Data: []byte("\x00")})
	p.Payload, p.Pad, p.Contribs = []byte("pay"), 255, nil
	tail := string(append(make([]byte, 254), 255))
	both(t, p, []byte("\xb0"+head+"\xbe\xde\x00\x02\xe2xyz\x10\x00\x00\x00pay"+tail))
}

func TestPacketsOfAllSorts(t *testing.T) {
	for _, p := range packets() {
		good(t, p)
	}
}

func TestMarkerAndType(t *testing.T) {
	for kind := range 128 {
		for _, marker := range []bool{false, true} {
			for _, p := range []rtp.Packet{{}, with(2, exts(3), value(4), 5)} {
				p.Type, p.Marker = kind, marker
				good(t, p)
			}
		}
	}
	for _, kind := range []int{-1, 128, -2, -128, 129, 255, 256, 1 << 32, math.MinInt, math.MaxInt} {
		for _, marker := range []bool{false, true} {
			impossible(t, "a Type", rtp.Packet{Type: kind, Marker: marker})
			p := with(1, exts(1), value(1), 1)
			p.Type, p.Marker = kind, marker
			impossible(t, "a Type", p)
		}
	}
}

func TestNumbers(t *testing.T) {
	for at := range 16 {
		good(t, rtp.Packet{Seq: 1 << at})
		good(t, rtp.Packet{Seq: ^uint16(1 << at), Pad: 1})
	}
	for at := range 32 {
		v := uint32(1) << at
		good(t, rtp.Packet{Time: v})
		good(t, rtp.Packet{Source: v})
		good(t, rtp.Packet{Contribs: []uint32{v}})
		good(t, rtp.Packet{Time: ^v, Source: v, Contribs: []uint32{^v, v, 0, ^v}})
	}
}

func TestTheNumberOfContribs(t *testing.T) {
	for n := range 16 {
		good(t, with(n, nil, nil, 0))
		good(t, with(n, exts(2, 9), value(3), 4))
	}
	for _, n := range []int{16, 17, 31, 32, 256, 372, 1 << 16} {
		impossible(t, "Contribs", with(n, nil, nil, 0))
		impossible(t, "Contribs", with(n, exts(2, 9), value(3), 4))
	}
}

func TestContribsMayBeAlike(t *testing.T) {
	for n := range 16 {
		good(t, rtp.Packet{Contribs: slices.Repeat([]uint32{7}, n), Source: 7})
	}
}

func TestTheNumberOfExts(t *testing.T) {
	for n := range 15 {
		for size := 1; size <= 16; size++ {
			good(t, with(n%3, full(n, size), value(n), size%4))
		}
	}
	for _, n := range []int{15, 16, 17, 28, 256, 700, 1 << 16} {
		for _, size := range []int{1, 2, 16} {
			impossible(t, "Exts", with(0, full(n, size), nil, 0))
		}
	}
}

func TestAnExtsID(t *testing.T) {
	wrong := []int{0, 15, -1, -15, 16, 17, 30, 31, 255, 256, 257, 1 << 32, 1<<32 + 1, math.MinInt, math.MaxInt}
	for size := 1; size <= 16; size++ {
		for id := 1; id <= 14; id++ {
			good(t, with(0, []rtp.Ext{{ID: id, Data: value(size)}}, nil, 0))
			good(t, with(1, []rtp.Ext{{ID: 7, Data: value(2)}, {ID: id, Data: value(size)}, {ID: 3, Data: value(1)}}, value(1), 1))
		}
		for _, id := range wrong {
			for at := range 14 {
				list := full(14, size)
				list[at].ID = id
				impossible(t, "an ID", with(0, list, nil, 0))
				impossible(t, "an ID", with(0, list[:at+1], nil, 0))
			}
		}
	}
}

func TestAnExtsLength(t *testing.T) {
	for _, size := range []int{0, 17, 18, 32, 256, 257, 1 << 16} {
		for at := range 14 {
			list := full(14, 16)
			list[at].Data = value(size)
			impossible(t, "an Ext's bytes", with(0, list, nil, 0))
			impossible(t, "an Ext's bytes", with(0, list[:at+1], nil, 0))
		}
	}
	impossible(t, "an Ext of nothing", rtp.Packet{Exts: []rtp.Ext{{ID: 1, Data: nil}}})
	impossible(t, "an Ext of nothing", rtp.Packet{Exts: []rtp.Ext{{ID: 1, Data: []byte{}}}})
	impossible(t, "an Ext of nothing", rtp.Packet{Exts: make([]rtp.Ext, 1)})
}

// Rows of one to three Exts of all lengths: all numbers of noughts behind them.
func TestTheNoughtsBehindExts(t *testing.T) {
	for a := 1; a <= 16; a++ {
		good(t, with(0, exts(a), value(3), 0))
		for b := 1; b <= 16; b++ {
			good(t, with(1, exts(a, b), value(2), 1))
			good(t, with(0, exts(a, b, a), nil, b))
		}
	}
}

func TestTwoExtsMayHaveOneID(t *testing.T) {
	for id := 1; id <= 14; id++ {
		list := []rtp.Ext{{ID: id, Data: []byte("a")}, {ID: id, Data: []byte("bc")}, {ID: id, Data: []byte("a")}}
		good(t, with(0, list, value(2), 0))
		good(t, with(0, slices.Repeat(list[:1], 14), nil, 3))
	}
}

func TestExtsStayInTheirOrder(t *testing.T) {
	list := exts(1, 2, 3, 4, 5)
	for i := range list {
		for j := range list {
			list[i], list[j] = list[j], list[i]
			good(t, with(0, list, value(5), 0))
		}
	}
}

func TestPayloadsAndExtsOfAllBytes(t *testing.T) {
	for v := range 256 {
		p := rtp.Packet{Payload: slices.Repeat([]byte{byte(v)}, 5), Exts: []rtp.Ext{{ID: 1, Data: slices.Repeat([]byte{byte(v)}, 6)}}}
		good(t, p)
		p.Pad = v
		good(t, p)
	}
}

func TestPad(t *testing.T) {
	for pad := range 256 {
		good(t, rtp.Packet{Pad: pad})
		good(t, with(0, nil, value(1), pad))
		good(t, with(2, exts(4), make([]byte, pad), pad))
	}
	for _, pad := range []int{-1, 256, -2, -255, -256, 257, 511, 512, 1000, 1 << 32, 1<<32 + 1, math.MinInt, math.MaxInt} {
		impossible(t, "a Pad", rtp.Packet{Pad: pad})
		impossible(t, "a Pad", with(2, exts(4), value(9), pad))
		impossible(t, "a Pad that makes room", with(2, exts(4), value(1480), pad))
	}
}

// Packets whose shares come to MostBytes with the Payload, and what a byte more in each share makes of them.
func TestTheNumberOfBytes(t *testing.T) {
	for _, n := range []int{0, 1, 7, 14} {
		for _, sizes := range [][]int{nil, {1}, {2}, {3}, {4}, {16, 16, 5}, slices.Repeat([]int{16}, 14), slices.Repeat([]int{15}, 13)} {
			for _, pad := range []int{0, 1, 2, 100, 254} {
				p := with(n, exts(sizes...), nil, pad)
				p.Payload = value(1500 - len(laid(p)))
				good(t, p)
				atTheEnd(t, p, sizes)
			}
		}
	}
}

// atTheEnd asks for what p, of 1500 bytes, is with a byte more or fewer in one of its shares.
func atTheEnd(t *testing.T, p rtp.Packet, sizes []int) {
	t.Helper()
	n := len(p.Payload)
	fewer, more, padded, named := p, p, p, p
	fewer.Payload = value(n - 1)
	good(t, fewer)
	more.Payload = value(n + 1)
	padded.Pad++
	named.Contribs = contribs(len(p.Contribs) + 1)
	for _, x := range []rtp.Packet{more, padded, named} {
		impossible(t, "bytes", x)
		refused(t, "bytes", laid(x))
	}
	fewer.Pad++
	good(t, fewer)
	named.Payload = value(n - 4)
	good(t, named)
	if len(sizes) == 0 || sizes[0] == 16 {
		return
	}
	// A byte more of an Ext takes a nought's place, or a word more.
	longer := p
	longer.Exts = exts(append([]int{sizes[0] + 1}, sizes[1:]...)...)
	if len(laid(longer)) == 1500 {
		good(t, longer)
		return
	}
	impossible(t, "bytes", longer)
	refused(t, "bytes", laid(longer))
}

func TestPayloadsOfEveryLength(t *testing.T) {
	for n := range 1489 {
		good(t, rtp.Packet{Payload: value(n)})
	}
	for _, n := range []int{1489, 1490, 1500, 1501, 65536, 1 << 20} {
		impossible(t, "a Payload", rtp.Packet{Payload: value(n)})
		refused(t, "a Payload", laid(rtp.Packet{Payload: value(n)}))
	}
}
