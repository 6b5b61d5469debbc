package rtcp_test

import (
	"bytes"
	"reflect"
	"strings"
	"testing"
	"unsafe"

	"rostrum/rtcp"
)

// spare is how much room roomy lays behind a list.
const spare = 40

// roomy is list in memory of its own, with spare room behind it, full of x.
func roomy[T any](list []T, x T) []T {
	all := append(make([]T, 0, len(list)+spare), list...)
	for range spare {
		all = append(all, x)
	}
	return all[:len(list):len(all)]
}

// roomyPacket is p with spare room behind each list, of no members too.
func roomyPacket(p rtcp.Packet) rtcp.Packet {
	p.Reports = roomy(p.Reports, rtcp.Report{Source: 0xa5a5a5a5, Total: 0xa5a5a5a5})
	p.Sources = roomy(p.Sources, 0xa5a5a5a5)
	p.Seqs = roomy(p.Seqs, 0xa5a5)
	p.Arrivals = roomy(p.Arrivals, 0xa5)
	p.Wanted = roomy(p.Wanted, rtcp.Want{Source: 0xa5a5a5a5, Seq: 0xa5})
	p.Name = strings.Clone(p.Name)
	return p
}

// roomyList is list with spare room behind it and behind each list in it.
func roomyList(list []rtcp.Packet) []rtcp.Packet {
	all := roomy(list, rtcp.Packet{Kind: 0xa5, Name: "spare"})
	for i, p := range all {
		all[i] = roomyPacket(p)
	}
	return all
}

// whole is a list with all its spare room laid open.
func whole(list []rtcp.Packet) []rtcp.Packet {
	all := append([]rtcp.Packet{}, list[:cap(list)]...)
	for i, p := range all {
		all[i].Reports = p.Reports[:cap(p.Reports)]
		all[i].Sources = p.Sources[:cap(p.Sources)]
		all[i].Seqs = p.Seqs[:cap(p.Seqs)]
		all[i].Arrivals = p.Arrivals[:cap(p.Arrivals)]
		all[i].Wanted = p.Wanted[:cap(p.Wanted)]
	}
	return all
}

// asBefore tells whether got, from roomyList of list, and its spare room are as they were.
func asBefore(got, list []rtcp.Packet) bool {
	return reflect.DeepEqual(whole(got), whole(roomyList(list)))
}

// spoil writes x over all of a list, its spare room too, as one who appends to it would.
func spoil[T any](list []T, x T) {
	list = list[:cap(list)]
	for i := range list {
		list[i] = x
	}
}

// spoilers are what spoils one of the lists in list each, and at last the list itself.
func spoilers(list []rtcp.Packet) []func() {
	var all []func()
	for _, p := range list {
		all = append(all,
			func() { spoil(p.Reports, rtcp.Report{Source: 1 << 30, Lost: 99, High: 1}) },
			func() { spoil(p.Sources, 1<<30) },
			func() { spoil(p.Seqs, 12345) },
			func() { spoil(p.Arrivals, -12345) },
			func() { spoil(p.Wanted, rtcp.Want{Source: 1 << 30, Seq: 99}) },
		)
	}
	return append(all, func() { spoil(list, rtcp.Packet{Kind: 99, Name: "spoilt"}) })
}

// texts is what each of the spoilers' lists holds, as text.
func texts(list []rtcp.Packet) []string {
	var all []string
	for _, p := range list {
		all = append(all, string(ofReports(p.Reports)), string(row(p.Sources)), string(row(p.Seqs)), string(ofArrivals(p.Arrivals)), string(row(wants(p.Wanted))))
	}
	return append(all, heads(list))
}

// wants is the numbers of the Wanted.
func wants(list []rtcp.Want) []uint32 {
	var all []uint32
	for _, w := range list {
		all = append(all, w.Source, uint32(w.Seq))
	}
	return all
}

// heads is what stands in the packets but for what their lists hold.
func heads(list []rtcp.Packet) string {
	var all []byte
	for _, p := range list {
		all = append(all, row(int64(p.Kind), p.Sender, p.Media, p.Ntp, p.Rtp, p.Packets, p.Octets, p.Base, p.Ref, p.Count, []byte(p.Name))...)
		all = append(all, row(uint32(len(p.Name)), uint32(len(p.Reports)), uint32(len(p.Sources)), uint32(len(p.Seqs)), uint32(len(p.Arrivals)), uint32(len(p.Wanted)))...)
	}
	return string(all)
}

// bad is lists that aren't good.
func bad() [][]rtcp.Packet {
	return [][]rtcp.Packet{
		nil, {sample(7, 0)}, {sample(1, 32)}, {first(), sample(3, 65)}, {first(), sample(4, 32)}, {first(), sample(5, 33)}, {first(), sample(6, 256)},
		{first(), sample(8, 9)}, append([]rtcp.Packet{sample(1, 31)}, sample(2, 31)), {first(), {Kind: 9, Seqs: seqs(1, 3, 1)}}, {first(), {Kind: 5, Seqs: []uint16{5, 5}}},
		{sample(1, 3), sample(8, 4), {Kind: 6, Arrivals: []int{1, 2, 40000, 5}}, sample(4, 9)},
	}
}

func TestBuildLeavesItsList(t *testing.T) {
	for _, was := range append(lists(), bad()...) {
		list := roomyList(was)
		b, _ := rtcp.Build(list)
		if !asBefore(list, was) {
			t.Fatalf("written to: %v", list)
		}
		spoil(b, 0x5a)
		if !asBefore(list, was) {
			t.Fatalf("shared: %v", list)
		}
	}
}

func TestBuildKeepsNothing(t *testing.T) {
	for _, was := range lists() {
		list := roomyList(was)
		one, _ := rtcp.Build(list)
		two, _ := rtcp.Build(list)
		spoil(two, 0x5a)
		if !bytes.Equal(one, laid(was...)) {
			t.Fatalf("another answer: %x", one)
		}
		for _, turn := range spoilers(list) {
			turn()
		}
		if !bytes.Equal(one, laid(was...)) {
			t.Fatalf("kept: %x", one)
		}
		if three, _ := rtcp.Build(was); !bytes.Equal(three, one) {
			t.Fatalf("kept from call to call: %x", three)
		}
	}
}

func TestParseLeavesItsBytes(t *testing.T) {
	for _, list := range lists() {
		was := laid(list...)
		for cut := max(0, len(was)-9); cut <= len(was); cut++ {
			b := roomy(was[:cut], 0xa5)
			got, _ := rtcp.Parse(b)
			if !bytes.Equal(b[:cap(b)], roomy(was[:cut], 0xa5)[:cap(b)]) {
				t.Fatalf("written to: %x", b)
			}
			for _, turn := range spoilers(got) {
				turn()
			}
			if !bytes.Equal(b[:cap(b)], roomy(was[:cut], 0xa5)[:cap(b)]) {
				t.Fatalf("shared: %x", b)
			}
		}
	}
}

func TestParseKeepsNothing(t *testing.T) {
	for _, list := range lists() {
		b := roomy(laid(list...), 0xa5)
		one, _ := rtcp.Parse(b)
		two, _ := rtcp.Parse(b)
		spoil(b, 0x5a)
		if !same(one, list) || !same(two, list) {
			t.Fatalf("kept: %v, not %v", one, list)
		}
		for _, turn := range spoilers(two) {
			turn()
		}
		if !same(one, list) {
			t.Fatalf("another answer: %v, not %v", one, list)
		}
		if three, _ := rtcp.Parse(laid(list...)); !same(three, list) {
			t.Fatalf("kept from call to call: %v, not %v", three, list)
		}
	}
}

// Each list of an answer is spoilt alone: all others stay.
func TestParseSharesNoMemory(t *testing.T) {
	for _, list := range lists() {
		b, was := laid(list...), texts(list)
		for i := range was {
			got, _ := rtcp.Parse(b)
			asked := append([]rtcp.Packet{}, got...) // leads to the lists in the list, when that is spoilt
			spoilers(got)[i]()
			for j, text := range texts(asked) {
				if j != i && text != was[j] {
					t.Fatalf("the list %d turned the list %d: %v, not %v", i, j, got, list)
				}
			}
		}
	}
}

// room is where a list's memory lies, its spare room too.
type room struct{ begin, end uintptr }

func roomOf[T any](list []T) room {
	begin := uintptr(unsafe.Pointer(unsafe.SliceData(list)))
	return room{begin, begin + uintptr(cap(list))*unsafe.Sizeof(*new(T))}
}

// rooms is where list, and all that stands in it, lies.
func rooms(list []rtcp.Packet) []room {
	all := []room{roomOf(list)}
	for _, p := range list {
		all = append(all, roomOf(p.Reports), roomOf(p.Sources), roomOf(p.Seqs), roomOf(p.Arrivals), roomOf(p.Wanted))
		if len(p.Name) > 1 { // a text of one byte may lie where the language has them all
			all = append(all, roomOf(unsafe.Slice(unsafe.StringData(p.Name), len(p.Name))))
		}
	}
	return all
}

// apart asks whether no two rooms share a byte.
func apart(t *testing.T, what string, list []room) {
	t.Helper()
	for i, a := range list {
		for _, b := range list[:i] {
			if a.begin < b.end && b.begin < a.end && a.begin < a.end && b.begin < b.end {
				t.Fatalf("%s: %v and %v", what, a, b)
			}
		}
	}
}

func TestWhereTheListsLie(t *testing.T) {
	for _, was := range lists() {
		b := roomy(laid(was...), 0xa5)
		one, _ := rtcp.Parse(b)
		two, _ := rtcp.Parse(b)
		apart(t, "Parse", append(append(rooms(one), rooms(two)...), roomOf(b)))
		list := roomyList(was)
		built, _ := rtcp.Build(list)
		more, _ := rtcp.Build(list)
		apart(t, "Build", append(rooms(list), roomOf(built), roomOf(more)))
	}
}
