package rtcp_test

import (
	"bytes"
	"encoding/binary"
	"fmt"
	"reflect"
	"slices"
	"strconv"
	"strings"
	"testing"

	"rostrum/api"
	"rostrum/rtcp"
)

// binaryOf is the number that stands in s.
func binaryOf(s string) uint16 {
	v, err := strconv.ParseUint(s, 2, 16)
	if err != nil {
		panic(err)
	}
	return uint16(v)
}

// row is numbers and lists of numbers one behind the other.
func row(values ...any) []byte {
	var b []byte
	for _, v := range values {
		var err error
		if b, err = binary.Append(b, binary.BigEndian, v); err != nil {
			panic(err)
		}
	}
	return b
}

// three is the lower 3 bytes of v.
func three(v uint32) []byte {
	return row(v)[1:]
}

// laid is a list's bytes as the chapter tells them.
func laid(list ...rtcp.Packet) []byte {
	var b []byte
	for _, p := range list {
		low, second, body := parts(p)
		b = append(b, row(byte(binaryOf("100"+fmt.Sprintf("%05b", low))), byte(second), uint16(len(body)/4), body)...)
	}
	return b
}

// parts is the first byte's lower bits, the second byte, and what follows the first word.
func parts(p rtcp.Packet) (int, int, []byte) {
	switch p.Kind {
	case 1:
		return len(p.Reports), 200, row(p.Sender, p.Ntp, p.Rtp, p.Packets, p.Octets, ofReports(p.Reports))
	case 2:
		return len(p.Reports), 201, row(p.Sender, ofReports(p.Reports))
	case 3:
		return 1, 202, row(p.Sender, byte(1), byte(len(p.Name)), []byte(p.Name), make([]byte, 4-(2+len(p.Name))%4))
	case 4:
		return len(p.Sources), 203, row(p.Sources)
	case 5:
		return 1, 205, row(p.Sender, p.Media, ofSeqs(p.Seqs))
	case 6:
		b := row(p.Sender, p.Media, p.Base, uint16(len(p.Arrivals)), three(p.Ref), p.Count, ofArrivals(p.Arrivals))
		for len(b)%4 != 0 {
			b = append(b, 0)
		}
		return 15, 205, b
	case 7:
		return 1, 206, row(p.Sender, p.Media)
	case 8:
		b := row(p.Sender, p.Media)
		for _, w := range p.Wanted {
			b = append(b, row(w.Source, w.Seq, three(0))...)
		}
		return 4, 206, b
	}
	return 0, 0, nil
}

func ofReports(list []rtcp.Report) []byte {
	var b []byte
	for _, x := range list {
		b = append(b, row(x.Source, x.Lost, three(x.Total), x.High, x.Jitter, x.Last, x.Delay)...)
	}
	return b
}

// ofSeqs is the pieces, with what isn't told yet as a set.
func ofSeqs(list []uint16) []byte {
	left := map[uint16]bool{}
	for _, s := range list {
		left[s] = true
	}
	var b []byte
	for _, s := range list {
		if !left[s] {
			continue
		}
		delete(left, s)
		text := ""
		for i := range uint16(16) {
			bit := "0"
			if left[s+1+i] {
				bit = "1"
				delete(left, s+1+i)
			}
			text = bit + text
		}
		b = append(b, row(s, binaryOf(text))...)
	}
	return b
}

// ofArrivals is the marks and the distances, by the marks' bits as text.
func ofArrivals(list []int) []byte {
	text, distances := "", []byte(nil)
	for _, a := range list {
		switch {
		case a == rtcp.Lost:
			text += "00"
		case a >= 0 && a < 256:
			text += "01"
			distances = append(distances, byte(a))
		default:
			text += "10"
			distances = append(distances, row(int16(a))...)
		}
	}
	var b []byte
	for text += strings.Repeat("00", 6); len(text) >= 14; text = text[14:] {
		b = append(b, row(binaryOf("11"+text[:14]))...)
	}
	return append(b, distances...)
}

// named is which fields each Kind names.
var named = map[int]string{
	1: " Kind Sender Ntp Rtp Packets Octets Reports ",
	2: " Kind Sender Reports ",
	3: " Kind Sender Name ",
	4: " Kind Sources ",
	5: " Kind Sender Media Seqs ",
	6: " Kind Sender Media Base Ref Count Arrivals ",
	7: " Kind Sender Media ",
	8: " Kind Sender Media Wanted ",
}

// names tells whether a Kind names a field.
func names(kind int, field string) bool {
	return strings.Contains(named[kind], " "+field+" ")
}

// nothing tells whether a field is zero, or a list or a text of nothing.
func nothing(v reflect.Value) bool {
	if v.Kind() == reflect.Slice {
		return v.Len() == 0
	}
	return v.IsZero()
}

// fits tells whether a list is good, as the chapter tells it.
func fits(list []rtcp.Packet) bool {
	if len(list) < 1 || len(list) > 8 || list[0].Kind != 1 && list[0].Kind != 2 {
		return false
	}
	for _, p := range list {
		if named[p.Kind] == "" || !fitting(p) {
			return false
		}
		v := reflect.ValueOf(p)
		for i := range v.NumField() {
			if !names(p.Kind, v.Type().Field(i).Name) && !nothing(v.Field(i)) {
				return false
			}
		}
	}
	return len(laid(list...)) <= 1500
}

// fitting tells whether the fields that p's Kind names are as they have to be.
func fitting(p rtcp.Packet) bool {
	switch p.Kind {
	case 1, 2:
		return len(p.Reports) < 32 && !slices.ContainsFunc(p.Reports, func(x rtcp.Report) bool { return x.Total >= 16777216 })
	case 3:
		return p.Name != "" && len(p.Name) < 65
	case 4:
		return len(p.Sources) > 0 && len(p.Sources) < 32
	case 5:
		if len(p.Seqs) == 0 || len(p.Seqs) > 32 {
			return false
		}
		for i, s := range p.Seqs[1:] {
			for _, ahead := range []uint16{p.Seqs[0], p.Seqs[i]} {
				if far := (int(s) - int(ahead) + 65536) % 65536; far == 0 || far >= 32768 {
					return false
				}
			}
		}
		return true
	case 6:
		wrong := func(a int) bool { return a != 65536 && (a < -32768 || a > 32767) }
		return p.Ref < 16777216 && len(p.Arrivals) > 0 && len(p.Arrivals) < 256 && !slices.ContainsFunc(p.Arrivals, wrong)
	case 8:
		return len(p.Wanted) > 0 && len(p.Wanted) < 9
	}
	return true
}

// told is the list whose bytes are b, and whether there is one: what b seems to tell, if it is good and b is what is laid of it.
func told(b []byte) (list []rtcp.Packet, ok bool) {
	defer func() {
		if recover() != nil {
			list, ok = nil, false
		}
	}()
	for rest := b; len(rest) > 0; {
		end := 4 + 4*int(binary.BigEndian.Uint16(rest[2:]))
		list = append(list, seems(int(rest[0])%32, int(rest[1]), rest[4:end]))
		rest = rest[end:]
	}
	if !fits(list) || !bytes.Equal(laid(list...), b) {
		return nil, false
	}
	return list, true
}

// seems is the packet that one seems to be; where bytes lack it panics.
func seems(low, second int, body []byte) rtcp.Packet {
	at := func(i int) uint32 { return binary.BigEndian.Uint32(body[i:]) }
	switch {
	case second == 200:
		return rtcp.Packet{Kind: 1, Sender: at(0), Ntp: binary.BigEndian.Uint64(body[4:]), Rtp: at(12), Packets: at(16), Octets: at(20), Reports: reportsOf(low, body[24:])}
	case second == 201:
		return rtcp.Packet{Kind: 2, Sender: at(0), Reports: reportsOf(low, body[4:])}
	case second == 202:
		return rtcp.Packet{Kind: 3, Sender: at(0), Name: string(body[6 : 6+int(body[5])])}
	case second == 203:
		p := rtcp.Packet{Kind: 4}
		for i := range low {
			p.Sources = append(p.Sources, at(4*i))
		}
		return p
	case second == 205 && low == 1:
		return rtcp.Packet{Kind: 5, Sender: at(0), Media: at(4), Seqs: seqsOf(body[8:])}
	case second == 205:
		p := rtcp.Packet{Kind: 6, Sender: at(0), Media: at(4), Base: uint16(at(8) >> 16), Ref: at(12) >> 8, Count: body[15]}
		p.Arrivals = arrivalsOf(int(at(8)%65536), body[16:])
		return p
	case second == 206 && low == 1:
		return rtcp.Packet{Kind: 7, Sender: at(0), Media: at(4)}
	}
	p := rtcp.Packet{Kind: 8, Sender: at(0), Media: at(4)}
	for i := 8; i < len(body); i += 8 {
		p.Wanted = append(p.Wanted, rtcp.Want{Source: at(i), Seq: body[i+4]})
	}
	return p
}

func reportsOf(n int, b []byte) []rtcp.Report {
	var list []rtcp.Report
	for range n {
		var w [6]uint32
		for i := range w {
			w[i] = binary.BigEndian.Uint32(b[4*i:])
		}
		list = append(list, rtcp.Report{Source: w[0], Lost: byte(w[1] >> 24), Total: w[1] % (1 << 24), High: w[2], Jitter: w[3], Last: w[4], Delay: w[5]})
		b = b[24:]
	}
	return list
}

func seqsOf(b []byte) []uint16 {
	var list []uint16
	for ; len(b) > 0; b = b[4:] {
		first := binary.BigEndian.Uint16(b)
		list = append(list, first)
		for i, bit := range slices.Backward([]byte(fmt.Sprintf("%016b", binary.BigEndian.Uint16(b[2:])))) {
			if bit == '1' {
				list = append(list, first+16-uint16(i))
			}
		}
	}
	return list
}

func arrivalsOf(n int, b []byte) []int {
	text := ""
	for range (n + 6) / 7 {
		text += fmt.Sprintf("%016b", binary.BigEndian.Uint16(b))[2:]
		b = b[2:]
	}
	var list []int
	for i := range n {
		switch text[2*i : 2*i+2] {
		case "00":
			list = append(list, rtcp.Lost)
		case "01":
			list = append(list, int(b[0]))
			b = b[1:]
		default:
			list = append(list, int(int16(binary.BigEndian.Uint16(b))))
			b = b[2:]
		}
	}
	return list
}

// same tells whether two lists are one and the same; no elements may be nil or empty.
func same(a, b []rtcp.Packet) bool {
	return slices.EqualFunc(a, b, func(x, y rtcp.Packet) bool {
		lists := slices.Equal(x.Reports, y.Reports) && slices.Equal(x.Sources, y.Sources) && slices.Equal(x.Seqs, y.Seqs) &&
			slices.Equal(x.Arrivals, y.Arrivals) && slices.Equal(x.Wanted, y.Wanted)
		numbers := x.Kind == y.Kind && x.Sender == y.Sender && x.Media == y.Media && x.Ntp == y.Ntp && x.Rtp == y.Rtp &&
			x.Packets == y.Packets && x.Octets == y.Octets && x.Base == y.Base && x.Ref == y.Ref && x.Count == y.Count
		return lists && numbers && x.Name == y.Name
	})
}

// both asks Build and Parse whether b is the list's bytes.
func both(t *testing.T, list []rtcp.Packet, b []byte) {
	t.Helper()
	if got, e := rtcp.Build(list); e != api.OK || !bytes.Equal(got, b) {
		t.Fatalf("Build of %v: %v %x, not %x", list, e, got, b)
	}
	if got, e := rtcp.Parse(b); e != api.OK || !same(got, list) {
		t.Fatalf("Parse of %x: %v %v, not %v", b, e, got, list)
	}
}

// good asks for a list that is good by the tests' own words.
func good(t *testing.T, list ...rtcp.Packet) {
	t.Helper()
	if !fits(list) {
		t.Fatalf("the test's own list isn't good: %v", list)
	}
	both(t, list, laid(list...))
}

// impossible asks whether a list is refused by Build.
func impossible(t *testing.T, what string, list ...rtcp.Packet) {
	t.Helper()
	if fits(list) {
		t.Fatalf("%s: the test's own list is good: %v", what, list)
	}
	if b, e := rtcp.Build(list); e != api.ErrArg || len(b) != 0 {
		t.Fatalf("%s: Build of %v: %v %x", what, list, e, b)
	}
}

// refused asks whether b is no list's bytes.
func refused(t *testing.T, what string, b []byte) {
	t.Helper()
	if list, e := rtcp.Parse(b); e != api.ErrForm || len(list) != 0 {
		t.Fatalf("%s: Parse of %x: %v %v", what, b, e, list)
	}
}

// judged asks Parse for what the tests' own words tell of b, and tells whether b is a list's bytes.
func judged(t *testing.T, what string, b []byte) bool {
	t.Helper()
	want, ok := told(b)
	if !ok {
		refused(t, what, b)
		return false
	}
	list, e := rtcp.Parse(b)
	if e != api.OK || !same(list, want) {
		t.Fatalf("%s: Parse of %x: %v %v, not %v", what, b, e, list, want)
	}
	if back, e := rtcp.Build(list); e != api.OK || !bytes.Equal(back, b) {
		t.Fatalf("%s: Build of %v: %v %x", what, list, e, back)
	}
	return true
}

// reports is n Reports, unlike in each number.
func reports(n int) []rtcp.Report {
	var list []rtcp.Report
	for i := range uint32(n) {
		x := 0x01020304 * (i + 1)
		list = append(list, rtcp.Report{Source: x, Lost: byte(7 + i), Total: 0x0a0b0c + i, High: ^x, Jitter: x + 1, Last: x + 2, Delay: x + 3})
	}
	return list
}

// sources is n Sources, unlike in each byte.
func sources(n int) []uint32 {
	var list []uint32
	for i := range uint32(n) {
		list = append(list, 0x11223344+i*0x01010101)
	}
	return list
}

// seqs is n Seqs from first on, by so many.
func seqs(first, n, by int) []uint16 {
	var list []uint16
	for i := range n {
		list = append(list, uint16(first+i*by))
	}
	return list
}

// arrivals is n Arrivals of the three sorts, in all rows of few.
func arrivals(n int) []int {
	var list []int
	for i := range n {
		list = append(list, []int{rtcp.Lost, i % 256, 256 + i, -1 - i}[(i+i/4)%4])
	}
	return list
}

// wanted is n Wanted.
func wanted(n int) []rtcp.Want {
	var list []rtcp.Want
	for i, v := range sources(n) {
		list = append(list, rtcp.Want{Source: v, Seq: byte(250 + i)})
	}
	return list
}

// name is a Name of n bytes, all of which differ by n.
func name(n int) string {
	b := make([]byte, n)
	for i := range b {
		b[i] = byte(i*37 + n)
	}
	return string(b)
}

// plain is a packet of a Kind with something in each number that the Kind names, and with no lists.
func plain(kind int) rtcp.Packet {
	p := rtcp.Packet{Kind: kind}
	v := reflect.ValueOf(&p).Elem()
	for i := 1; i < v.NumField(); i++ {
		if f := v.Field(i); names(kind, v.Type().Field(i).Name) && f.CanUint() {
			f.SetUint(0x0102030405060708 * uint64(i) >> 20 % (1 << min(24, f.Type().Bits())))
		}
	}
	return p
}

// sample is a packet of a Kind with n of what its list is made of.
func sample(kind, n int) rtcp.Packet {
	p := plain(kind)
	switch kind {
	case 1, 2:
		p.Reports = reports(n)
	case 3:
		p.Name = name(n)
	case 4:
		p.Sources = sources(n)
	case 5:
		p.Seqs = seqs(65530, n, 3)
	case 6:
		p.Arrivals = arrivals(n)
	case 8:
		p.Wanted = wanted(n)
	}
	return p
}

// first is a packet that a list may begin with.
func first() rtcp.Packet { return rtcp.Packet{Kind: 2, Sender: 9} }

// packets is good packets of all Kinds.
func packets() []rtcp.Packet {
	list := []rtcp.Packet{{Kind: 1}, {Kind: 2}, {Kind: 3, Name: "\x00"}, {Kind: 4, Sources: []uint32{0}}, {Kind: 5, Seqs: []uint16{0}}, {Kind: 6, Arrivals: []int{0}}, {Kind: 7}, {Kind: 8, Wanted: make([]rtcp.Want, 1)}}
	for kind, sizes := range [][]int{1: {0, 1, 2, 31}, 2: {0, 1, 31}, 3: {1, 2, 3, 4, 5, 64}, 4: {1, 2, 31}, 5: {1, 2, 6, 7, 32}, 6: {1, 2, 3, 4, 7, 8, 14, 15, 255}, 7: {0}, 8: {1, 2, 8}} {
		for _, n := range sizes {
			list = append(list, sample(kind, n))
		}
	}
	for _, s := range [][]uint16{{5, 6, 22}, seqs(9, 17, 1), seqs(65520, 32, 1), {1, 17}, {1, 18}, seqs(40000, 32, 17), {0, 32767}} {
		p := plain(5)
		p.Seqs = s
		list = append(list, p)
	}
	for _, a := range [][]int{{rtcp.Lost}, {-1}, {256}, {rtcp.Lost, rtcp.Lost, 3}, slices.Repeat([]int{rtcp.Lost}, 7), slices.Repeat([]int{-32768}, 8)} {
		p := plain(6)
		p.Arrivals = a
		list = append(list, p)
	}
	return list
}

// lists is good lists of one to eight packets, with packets of all Kinds at all places.
func lists() [][]rtcp.Packet {
	var all [][]rtcp.Packet
	for _, p := range packets() {
		if p.Kind <= 2 {
			all = append(all, []rtcp.Packet{p})
		}
		all = append(all, []rtcp.Packet{first(), p})
	}
	short := []rtcp.Packet{sample(1, 1), sample(2, 1), sample(3, 3), sample(4, 1), sample(5, 4), sample(6, 8), sample(7, 0), sample(8, 1)}
	for i := range short {
		all = append(all, append([]rtcp.Packet{sample(1, 2)}, slices.Concat(short[i:], short[:i])[:7]...))
	}
	return append(all, slices.Repeat(short[:1], 8), append([]rtcp.Packet{first()}, slices.Repeat(short[5:6], 7)...))
}
