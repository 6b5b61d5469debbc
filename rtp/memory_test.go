package rtp_test

import (
	"bytes"
	"reflect"
	"testing"
	"unsafe"

	"rostrum/api"
	"rostrum/rtp"
)

// roomy is list with spare room behind it, full of x.
func roomy[T any](list []T, x T) []T {
	all := append([]T{}, list...)
	for range 40 {
		all = append(all, x)
	}
	return all[: len(list) : len(list)+40]
}

// roomyPacket is p in memory of its own, with spare room behind each list.
func roomyPacket(p rtp.Packet) rtp.Packet {
	p.Contribs = roomy(p.Contribs, 0xa5a5a5a5)
	p.Payload = roomy(p.Payload, 0xa5)
	p.Exts = roomy(p.Exts, rtp.Ext{ID: 0xa5, Data: []byte("spare")})
	for i, x := range p.Exts {
		p.Exts[i].Data = roomy(x.Data, 0xa5)
	}
	return p
}

// whole is p with the spare room of its lists laid open.
func whole(p rtp.Packet) rtp.Packet {
	p.Contribs = p.Contribs[:cap(p.Contribs)]
	p.Payload = p.Payload[:cap(p.Payload)]
	p.Exts = append([]rtp.Ext{}, p.Exts[:cap(p.Exts)]...)
	for i, x := range p.Exts {
		p.Exts[i].Data = x.Data[:cap(x.Data)]
	}
	return p
}

// asBefore tells whether got, from roomyPacket of p, and its spare room are as they were.
func asBefore(got, p rtp.Packet) bool {
	return reflect.DeepEqual(whole(got), whole(roomyPacket(p)))
}

// spoil writes over all of b, its spare room too, as one who appends to it would.
func spoil(b []byte) {
	b = b[:cap(b)]
	for i := range b {
		b[i] = ^b[i]
	}
}

// spoilers are what writes over one list of p each, its spare room too.
func spoilers(p rtp.Packet) []func() {
	list := []func(){
		func() { spoil(p.Payload) },
		func() {
			for i := range p.Contribs[:cap(p.Contribs)] {
				p.Contribs[:cap(p.Contribs)][i] ^= 0xffffffff
			}
		},
		func() {
			all := p.Exts[:cap(p.Exts)]
			for i := range all {
				all[i] = rtp.Ext{ID: 99, Data: []byte("spoilt")}
			}
		},
	}
	for _, x := range p.Exts {
		list = append(list, func() { spoil(x.Data) })
	}
	return list
}

// lists is what p's lists hold: Payload, Contribs, the Exts' numbers and lengths, and each Ext's own bytes, which are asked for by themselves.
func lists(p rtp.Packet, data [][]byte) []any {
	var heads []int
	for _, x := range p.Exts {
		heads = append(heads, x.ID, len(x.Data))
	}
	all := []any{string(p.Payload), append([]uint32{}, p.Contribs...), heads}
	for _, b := range data {
		all = append(all, string(b))
	}
	return all
}

func datas(p rtp.Packet) [][]byte {
	var all [][]byte
	for _, x := range p.Exts {
		all = append(all, x.Data)
	}
	return all
}

func TestParseLeavesItsBytes(t *testing.T) {
	for _, p := range packets() {
		was := laid(p)
		for cut := max(0, len(was)-9); cut <= len(was); cut++ {
			b := roomy(was[:cut], 0xa5)
			rtp.Parse(b)
			rtp.Head(b)
			if !bytes.Equal(b[:cap(b)], roomy(was[:cut], 0xa5)[:cap(b)]) {
				t.Fatalf("written to: %x", b)
			}
		}
	}
}

func TestParseKeepsNothing(t *testing.T) {
	for _, p := range packets() {
		b := roomy(laid(p), 0xa5)
		got, e := rtp.Parse(b)
		again, _ := rtp.Parse(b)
		spoil(b)
		if e != api.OK || !same(got, p) || !same(again, p) {
			t.Fatalf("kept: %v, not %v", got, p)
		}
		for _, turn := range spoilers(again) {
			turn()
		}
		if !same(got, p) {
			t.Fatalf("another answer: %v, not %v", got, p)
		}
	}
}

// Each list of an answer is spoilt alone: the others and what was handed in stay.
func TestParseSharesNoMemory(t *testing.T) {
	for _, p := range packets() {
		was := laid(p)
		for i := range 3 + len(p.Exts) {
			b := roomy(was, 0xa5)
			got, _ := rtp.Parse(b)
			data := datas(got)
			before := lists(got, data)
			spoilers(got)[i]()
			after := lists(got, data)
			before[i], after[i] = nil, nil
			if !reflect.DeepEqual(before, after) {
				t.Fatalf("the list %d of %v: %v, not %v", i, p, after, before)
			}
			if !bytes.Equal(b[:cap(b)], roomy(was, 0xa5)[:cap(b)]) {
				t.Fatalf("the list %d of %v lies in what was handed in", i, p)
			}
		}
	}
}

// room is where a list lies, its spare room too.
type room struct{ begin, end uintptr }

func roomOf[T any](list []T) room {
	begin := uintptr(unsafe.Pointer(unsafe.SliceData(list)))
	return room{begin, begin + uintptr(cap(list))*unsafe.Sizeof(*new(T))}
}

// rooms is where all of p's lists lie.
func rooms(p rtp.Packet) []room {
	list := []room{roomOf(p.Payload), roomOf(p.Contribs), roomOf(p.Exts)}
	for _, x := range p.Exts {
		list = append(list, roomOf(x.Data))
	}
	return list
}

// apart asks whether no two rooms share a byte.
func apart(t *testing.T, what string, list []room) {
	t.Helper()
	for i, a := range list {
		for _, b := range list[:i] {
			if a.begin < b.end && b.begin < a.end && a.begin < a.end && b.begin < b.end {
				t.Fatalf("%s: %v and %v", what, a, b)
			}
		}
	}
}

func TestWhereTheListsLie(t *testing.T) {
	for _, was := range packets() {
		b := roomy(laid(was), 0xa5)
		first, _ := rtp.Parse(b)
		again, _ := rtp.Parse(b)
		apart(t, "Parse", append(append(rooms(first), rooms(again)...), roomOf(b)))
		p := roomyPacket(was)
		built, _ := rtp.Build(p)
		more, _ := rtp.Build(p)
		apart(t, "Build", append(rooms(p), roomOf(built), roomOf(more)))
		if len(p.Exts) > 0 {
			v, _ := rtp.Find(p, 1)
			w, _ := rtp.Find(p, 1)
			apart(t, "Find", append(rooms(p), roomOf(v), roomOf(w)))
		}
	}
}

// wrongs are packets that aren't good.
func wrongs() []rtp.Packet {
	list := []rtp.Packet{with(16, exts(1, 2), value(3), 4), with(2, full(15, 3), value(3), 4), with(2, exts(1, 17), value(3), 4),
		with(2, exts(1, 2), value(1500), 4), with(2, exts(1, 2), value(3), 256), with(2, exts(1, 2), value(3), -1), with(2, exts(0, 2), value(3), 4)}
	kind := with(2, exts(1, 2), value(3), 4)
	kind.Type = 128
	return append(list, kind)
}

func TestBuildLeavesItsPacket(t *testing.T) {
	for _, was := range append(packets(), wrongs()...) {
		p := roomyPacket(was)
		b, _ := rtp.Build(p)
		if !asBefore(p, was) {
			t.Fatalf("written to: %v", p)
		}
		spoil(b)
		if !asBefore(p, was) {
			t.Fatalf("shared: %v", p)
		}
	}
}

func TestBuildKeepsNothing(t *testing.T) {
	for _, was := range packets() {
		p := roomyPacket(was)
		first, _ := rtp.Build(p)
		again, _ := rtp.Build(p)
		spoil(again)
		if !bytes.Equal(first, laid(was)) {
			t.Fatalf("another answer: %x", first)
		}
		for _, turn := range spoilers(p) {
			turn()
		}
		if !bytes.Equal(first, laid(was)) {
			t.Fatalf("kept: %x", first)
		}
	}
}

func TestFindsMemory(t *testing.T) {
	for _, was := range append(packets(), wrongs()...) {
		for id := range 16 {
			p := roomyPacket(was)
			first, _ := rtp.Find(p, id)
			again, _ := rtp.Find(p, id)
			if !asBefore(p, was) {
				t.Fatalf("written to: %v", p)
			}
			want := bytes.Clone(first)
			spoil(again)
			if !asBefore(p, was) || !bytes.Equal(first, want) {
				t.Fatalf("shared: %v %x", p, first)
			}
			for _, turn := range spoilers(p) {
				turn()
			}
			if !bytes.Equal(first, want) {
				t.Fatalf("kept: %x, not %x", first, want)
			}
		}
	}
}
