package rtp_test

import (
	"bytes"
	"encoding/binary"
	"fmt"
	"slices"
	"strconv"
	"testing"

	"rostrum/api"
	"rostrum/rtp"
)

// bit is a bit of a byte's text.
func bit(on bool) string {
	if on {
		return "1"
	}
	return "0"
}

// octet is the byte whose bits stand in s.
func octet(s string) byte {
	v, err := strconv.ParseUint(s, 2, 8)
	if err != nil {
		panic(err)
	}
	return byte(v)
}

// laid is a packet's bytes as the chapter tells them, the first two by their bits as text.
func laid(p rtp.Packet) []byte {
	b := []byte{
		octet("10" + bit(p.Pad != 0) + bit(len(p.Exts) > 0) + fmt.Sprintf("%04b", len(p.Contribs))),
		octet(bit(p.Marker) + fmt.Sprintf("%07b", p.Type)),
	}
	b = binary.BigEndian.AppendUint16(b, p.Seq)
	b = binary.BigEndian.AppendUint32(b, p.Time)
	b = binary.BigEndian.AppendUint32(b, p.Source)
	for _, c := range p.Contribs {
		b = binary.BigEndian.AppendUint32(b, c)
	}
	if len(p.Exts) > 0 {
		words := inWords(p.Exts)
		b = append(b, 0xbe, 0xde)
		b = binary.BigEndian.AppendUint16(b, uint16(len(words)/4))
		b = append(b, words...)
	}
	b = append(b, p.Payload...)
	for i := range p.Pad {
		b = append(b, 0)
		if i == p.Pad-1 {
			b[len(b)-1] = byte(p.Pad)
		}
	}
	return b
}

// inWords is the Exts' own bytes, and noughts behind them.
func inWords(exts []rtp.Ext) []byte {
	var b []byte
	for _, x := range exts {
		b = append(b, byte(x.ID*16+len(x.Data)-1))
		b = append(b, x.Data...)
	}
	for len(b)%4 != 0 {
		b = append(b, 0)
	}
	return b
}

// fits tells whether a packet is good, as the chapter tells it.
func fits(p rtp.Packet) bool {
	if p.Type < 0 || p.Type >= 128 || len(p.Contribs) >= 16 || len(p.Exts) >= 15 || p.Pad < 0 || p.Pad >= 256 {
		return false
	}
	for _, x := range p.Exts {
		if x.ID <= 0 || x.ID >= 15 || len(x.Data) == 0 || len(x.Data) >= 17 {
			return false
		}
	}
	return len(laid(p)) <= 1500
}

// told is the packet whose bytes are b, and whether there is one: what b seems to tell, if it is good and b is what is laid of it.
func told(b []byte) (p rtp.Packet, ok bool) {
	defer func() {
		if recover() != nil {
			p, ok = rtp.Packet{}, false
		}
	}()
	p = rtp.Packet{
		Marker: b[1] >= 128, Type: int(b[1]) % 128, Seq: binary.BigEndian.Uint16(b[2:]),
		Time: binary.BigEndian.Uint32(b[4:]), Source: binary.BigEndian.Uint32(b[8:]),
	}
	at := 12
	for range b[0] % 16 {
		p.Contribs = append(p.Contribs, binary.BigEndian.Uint32(b[at:]))
		at += 4
	}
	if b[0]/16%2 == 1 {
		end := at + 4 + 4*int(binary.BigEndian.Uint16(b[at+2:]))
		for at += 4; at < end && b[at] != 0; {
			behind := at + int(b[at]%16) + 2
			p.Exts = append(p.Exts, rtp.Ext{ID: int(b[at]) / 16, Data: b[at+1 : behind]})
			at = behind
		}
		at = end
	}
	if b[0]/32%2 == 1 {
		p.Pad = int(b[len(b)-1])
	}
	p.Payload = b[at : len(b)-p.Pad]
	if !fits(p) || !bytes.Equal(laid(p), b) {
		return rtp.Packet{}, false
	}
	return p, true
}

// ahead is how many bytes stand ahead of the Payload, and whether that can be told.
func ahead(b []byte) (int, bool) {
	if len(b) < 12 || b[0] < 128 || b[0] > 191 {
		return 0, false
	}
	n := 12 + 4*int(b[0]%16)
	if b[0]/16%2 == 1 {
		if len(b) < n+4 {
			return 0, false
		}
		n += 4 + 4*int(binary.BigEndian.Uint16(b[n+2:]))
	}
	if n > len(b) {
		return 0, false
	}
	return n, true
}

// same tells whether two packets are one and the same; no elements may be nil or empty.
func same(a, b rtp.Packet) bool {
	if a.Marker != b.Marker || a.Type != b.Type || a.Seq != b.Seq || a.Time != b.Time || a.Source != b.Source || a.Pad != b.Pad {
		return false
	}
	return slices.Equal(a.Contribs, b.Contribs) && slices.EqualFunc(a.Exts, b.Exts, sameExt) && bytes.Equal(a.Payload, b.Payload)
}

func sameExt(a, b rtp.Ext) bool {
	return a.ID == b.ID && bytes.Equal(a.Data, b.Data)
}

// both asks Build, Parse and Head whether b is p's bytes.
func both(t *testing.T, p rtp.Packet, b []byte) {
	t.Helper()
	if got, e := rtp.Build(p); e != api.OK || !bytes.Equal(got, b) {
		t.Errorf("Build of %v: %v %x", p, e, got)
	}
	if got, e := rtp.Parse(b); e != api.OK || !same(got, p) {
		t.Errorf("Parse of %x: %v %v", b, e, got)
	}
	if n, e := rtp.Head(b); e != api.OK || n != len(b)-p.Pad-len(p.Payload) {
		t.Errorf("Head of %x: %v %d", b, e, n)
	}
}

// good asks for a packet that is good by the tests' own words.
func good(t *testing.T, p rtp.Packet) {
	t.Helper()
	if !fits(p) {
		t.Fatalf("the test's own packet isn't good: %v", p)
	}
	both(t, p, laid(p))
}

// impossible asks whether p is refused by Build.
func impossible(t *testing.T, what string, p rtp.Packet) {
	t.Helper()
	if b, e := rtp.Build(p); e != api.ErrArg || len(b) != 0 {
		t.Errorf("%s: Build: %v %x", what, e, b)
	}
}

// refused asks whether b is no packet's bytes.
func refused(t *testing.T, what string, b []byte) {
	t.Helper()
	if p, e := rtp.Parse(b); e != api.ErrForm || !same(p, rtp.Packet{}) {
		t.Errorf("%s: Parse of %x: %v %v", what, b, e, p)
	}
	headed(t, what, b)
}

// headed asks Head for what the tests' own words tell of b.
func headed(t *testing.T, what string, b []byte) {
	t.Helper()
	want, ok := ahead(b)
	if n, e := rtp.Head(b); n != want || e != form(ok) {
		t.Errorf("%s: Head of %x: %v %d, not %d", what, b, e, n, want)
	}
}

// judged asks Parse and Head for what the tests' own words tell of b, and tells whether b is a packet's bytes.
func judged(t *testing.T, what string, b []byte) bool {
	t.Helper()
	want, ok := told(b)
	p, e := rtp.Parse(b)
	if e != form(ok) || !same(p, want) {
		t.Fatalf("%s: Parse of %x: %v %v, not %v", what, b, e, p, want)
	}
	headed(t, what, b)
	if !ok {
		return false
	}
	if back, e := rtp.Build(p); e != api.OK || !bytes.Equal(back, b) {
		t.Fatalf("%s: Build of %v: %v %x", what, p, e, back)
	}
	return true
}

func form(ok bool) api.Errno {
	if ok {
		return api.OK
	}
	return api.ErrForm
}

// value is n bytes, none of them 0, that differ by n.
func value(n int) []byte {
	b := make([]byte, n)
	for i := range b {
		b[i] = byte(1 + (i*7+n)%255)
	}
	return b
}

// contribs is n Contribs, unlike in each byte.
func contribs(n int) []uint32 {
	var list []uint32
	for i := range uint32(n) {
		list = append(list, 0x11223344+i*0x01010101)
	}
	return list
}

// exts is Exts of so many bytes each, their IDs from 1 on.
func exts(sizes ...int) []rtp.Ext {
	var list []rtp.Ext
	for i, n := range sizes {
		list = append(list, rtp.Ext{ID: i%14 + 1, Data: value(n)})
	}
	return list
}

// full is n Exts of size bytes each.
func full(n, size int) []rtp.Ext {
	return exts(slices.Repeat([]int{size}, n)...)
}

// plain is a packet with something in each number, and no lists.
func plain() rtp.Packet {
	return rtp.Packet{Marker: true, Type: 96, Seq: 0x0102, Time: 0x03040506, Source: 0x0708090a}
}

// with is a plain packet with these lists.
func with(n int, list []rtp.Ext, payload []byte, pad int) rtp.Packet {
	p := plain()
	p.Contribs, p.Exts, p.Payload, p.Pad = contribs(n), list, payload, pad
	return p
}

// packets is good packets of all sorts.
func packets() []rtp.Packet {
	list := []rtp.Packet{{}, {Type: 127, Payload: make([]byte, 9)}, {Exts: []rtp.Ext{{ID: 9, Data: make([]byte, 5)}}, Pad: 4}}
	for _, n := range []int{0, 1, 2, 15} {
		for _, x := range [][]rtp.Ext{nil, exts(1), exts(2), exts(3), exts(16, 1), exts(1, 2, 3, 4), full(14, 1), full(14, 16)} {
			for _, size := range []int{0, 1, 6} {
				for _, pad := range []int{0, 1, 2, 9} {
					list = append(list, with(n, x, value(size), pad))
				}
			}
		}
	}
	return append(list, with(3, exts(7, 16, 1), value(1500-24-32-77), 77), with(0, nil, value(1488), 0), with(15, full(14, 16), nil, 255))
}
