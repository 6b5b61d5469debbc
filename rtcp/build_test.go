package rtcp_test

import (
	"math"
	"reflect"
	"slices"
	"strconv"
	"strings"
	"testing"

	"rostrum/api"
	"rostrum/rtcp"
)

// strange is what no Kind is.
var strange = []int{0, -1, 9, 10, 16, 255, 256, 257, 258, -2, -255, 200, 201, 1 << 32, 1<<32 + 1, 1<<32 + 2, math.MinInt, math.MaxInt}

func TestTheNumberOfPackets(t *testing.T) {
	impossible(t, "no packets")
	if b, e := rtcp.Build([]rtcp.Packet{}); e != api.ErrArg || len(b) != 0 {
		t.Errorf("no packets: %v %x", e, b)
	}
	for n := 1; n <= 8; n++ {
		good(t, slices.Repeat([]rtcp.Packet{{Kind: 1}}, n)...)
		good(t, slices.Repeat([]rtcp.Packet{{Kind: 2}}, n)...)
		for kind := 1; kind <= 8; kind++ {
			good(t, append([]rtcp.Packet{first()}, slices.Repeat([]rtcp.Packet{sample(kind, 1)}, n-1)...)...)
		}
	}
	for _, n := range []int{9, 10, 16, 100, 256, 257, 1 << 16} {
		for kind := 1; kind <= 8; kind++ {
			list := append([]rtcp.Packet{first()}, slices.Repeat([]rtcp.Packet{sample(kind, 1)}, n-1)...)
			impossible(t, "packets", list...)
			if n < 50 {
				refused(t, "packets", laid(list...))
			}
		}
	}
}

func TestTheFirstPacket(t *testing.T) {
	for kind := 1; kind <= 8; kind++ {
		for _, behind := range [][]rtcp.Packet{nil, {first()}, {{Kind: 1}}, {sample(7, 0), first()}} {
			list := append([]rtcp.Packet{sample(kind, 1)}, behind...)
			if kind <= 2 {
				good(t, list...)
			} else {
				impossible(t, "a first packet", list...)
				refused(t, "a first packet", laid(list...))
			}
		}
	}
}

func TestKindsThatAreNone(t *testing.T) {
	for _, kind := range strange {
		for n := range 8 {
			for at := range n + 1 {
				list := slices.Repeat([]rtcp.Packet{first()}, n)
				impossible(t, "a Kind", slices.Insert(list, at, rtcp.Packet{Kind: kind})...)
				impossible(t, "a Kind", slices.Insert(list, at, rtcp.Packet{Kind: kind, Sender: 1, Media: 2})...)
			}
		}
	}
}

// placed asks for p as a list's only packet (if it may be that), its second and its last one.
func placed(p rtcp.Packet) [][]rtcp.Packet {
	all := [][]rtcp.Packet{{first(), p}, {first(), p, first()}, append(slices.Repeat([]rtcp.Packet{first()}, 7), p)}
	if p.Kind <= 2 {
		all = append(all, []rtcp.Packet{p}, []rtcp.Packet{p, first()})
	}
	return all
}

// fine asks for a good packet at each place; wrong for one that isn't good.
func fine(t *testing.T, p rtcp.Packet) {
	t.Helper()
	for _, list := range placed(p) {
		good(t, list...)
	}
}

func wrong(t *testing.T, what string, p rtcp.Packet) {
	t.Helper()
	for _, list := range placed(p) {
		impossible(t, what, list...)
	}
}

// Each Kind's list of each number up to its most, and greater ones.
func TestTheNumberOfThings(t *testing.T) {
	t.Parallel()
	for kind, ends := range map[int][2]int{1: {0, 31}, 2: {0, 31}, 3: {1, 64}, 4: {1, 31}, 5: {1, api.MostGaps}, 6: {1, 255}, 8: {1, 8}} {
		if ends[0] == 1 {
			wrong(t, "nothing", sample(kind, 0))
			refused(t, "nothing", laid(first(), sample(kind, 0)))
		}
		for n := ends[0]; n <= ends[1]; n++ {
			fine(t, sample(kind, n))
		}
		for _, more := range []int{1, 2, 3, 7, 31, 32, 33, 256 - ends[1], 257 - ends[1], 1 << 16, 1 << 20} {
			if kind != 5 || more < 1000 {
				wrong(t, "too many", sample(kind, ends[1]+more))
			}
		}
	}
	for _, empty := range []rtcp.Packet{{Kind: 4, Sources: []uint32{}}, {Kind: 5, Seqs: []uint16{}}, {Kind: 6, Arrivals: []int{}}, {Kind: 8, Wanted: []rtcp.Want{}}} {
		wrong(t, "nothing", empty)
	}
	fine(t, rtcp.Packet{Kind: 1, Reports: []rtcp.Report{}})
	fine(t, rtcp.Packet{Kind: 2, Reports: []rtcp.Report{}})
}

// What lists of too many seem to tell, laid by hand.
func TestParseOfTooManyThings(t *testing.T) {
	for _, n := range []int{33, 34, 40, 64, 300} {
		refused(t, "Seqs", laid(first(), rtcp.Packet{Kind: 5, Seqs: seqs(7, n, 1)}))
		refused(t, "Seqs", laid(first(), rtcp.Packet{Kind: 5, Seqs: seqs(7, n, 17)}))
	}
	for _, n := range []int{65, 66, 67, 68, 100, 255} {
		refused(t, "a Name", laid(first(), rtcp.Packet{Kind: 3, Name: name(n)}))
	}
	for _, n := range []int{9, 10, 31, 32, 33, 64} {
		refused(t, "Wanted", laid(first(), sample(8, n)))
	}
	for _, n := range []int{256, 257, 258, 511, 512, 513, 1000, 5000} {
		refused(t, "Arrivals", laid(first(), rtcp.Packet{Kind: 6, Arrivals: slices.Repeat([]int{rtcp.Lost}, n)}))
		if n < 1000 {
			refused(t, "Arrivals", laid(first(), rtcp.Packet{Kind: 6, Arrivals: slices.Repeat([]int{7}, n)}))
		}
	}
}

func TestTotals(t *testing.T) {
	for kind := 1; kind <= 2; kind++ {
		for _, n := range []int{1, 2, 31} {
			for at := range n {
				p := sample(kind, n)
				for _, total := range []uint32{0, 1, 1<<24 - 1, 1 << 23} {
					p.Reports[at].Total = total
					fine(t, p)
				}
				for _, total := range []uint32{1 << 24, 1<<24 + 1, 1 << 25, 1 << 31, 1<<32 - 1} {
					p.Reports[at].Total = total
					wrong(t, "a Total", p)
				}
			}
		}
	}
}

func TestRef(t *testing.T) {
	for _, n := range []int{1, 8, 255} {
		p := sample(6, n)
		for _, ref := range []uint32{0, 1, 255, 256, 1 << 16, 1<<24 - 1} {
			p.Ref = ref
			fine(t, p)
		}
		for _, ref := range []uint32{1 << 24, 1<<24 + 1, 1 << 25, 1 << 31, 1<<32 - 1} {
			p.Ref = ref
			wrong(t, "a Ref", p)
		}
	}
}

func TestAnArrival(t *testing.T) {
	if rtcp.Lost != 65536 {
		t.Error(rtcp.Lost)
	}
	for _, n := range []int{1, 2, 7, 8, 15} {
		for at := range n {
			p := sample(6, n)
			for _, a := range []int{-32768, -32767, -256, -255, -128, -1, 0, 1, 127, 128, 254, 255, 256, 257, 511, 512, 32766, 32767, rtcp.Lost} {
				p.Arrivals[at] = a
				fine(t, p)
			}
			for _, a := range []int{-32769, -32770, 32768, 32769, 40000, rtcp.Lost - 1, rtcp.Lost + 1, -rtcp.Lost, 2 * rtcp.Lost, 1 << 32, 1<<32 + rtcp.Lost, math.MinInt, math.MaxInt} {
				p.Arrivals[at] = a
				wrong(t, "an Arrival", p)
			}
		}
	}
}

// Each Arrival that there may be, and those around.
func TestEachArrival(t *testing.T) {
	t.Parallel()
	for a := -33000; a <= 66000; a++ {
		list := []rtcp.Packet{first(), {Kind: 6, Arrivals: []int{a}}}
		if a >= -32768 && a <= 32767 || a == 65536 {
			good(t, list...)
		} else {
			impossible(t, "an Arrival", list...)
		}
	}
}

// withSeqs is a list with these Seqs.
func withSeqs(list ...uint16) []rtcp.Packet {
	p := plain(5)
	p.Seqs = list
	return []rtcp.Packet{first(), p}
}

// Two Seqs at each distance, and what stands in the middle or behind.
func TestTwoSeqs(t *testing.T) {
	t.Parallel()
	for _, a := range []uint16{0, 32768, 65535} {
		for d := range 1 << 16 {
			list := withSeqs(a, a+uint16(d))
			if d >= 1 && d <= 32767 {
				good(t, list...)
			} else {
				impossible(t, "two Seqs", list...)
			}
		}
	}
}

func TestSeqsThatAreWrong(t *testing.T) {
	for _, a := range []uint16{0, 100, 32760, 65530} {
		for _, list := range [][]uint16{
			{0, 0}, {0, 1, 1}, {0, 1, 0}, {0, 1, 2, 1}, {0, 5, 3}, {0, 5, 20, 19}, {0, 16, 15}, {0, 17, 16}, {0, 17, 17}, {0, 30, 20, 40}, // not behind the one ahead
			{0, 32768}, {0, 1, 32769, 32770}, {0, 65535}, {0, 40000, 50000}, {0, 65535, 65534},
			{0, 20000, 40000}, {0, 32767, 32768}, {0, 1, 32767, 32768}, {0, 20000, 40000, 60000}, {0, 32767, 65534}, {0, 16, 32767, 32780}, // not behind the first one
			{0, 20000, 40000, 60000, 14464}, {0, 32767, 65534, 1},
		} {
			moved := make([]uint16, len(list))
			for i, s := range list {
				moved[i] = s + a
			}
			impossible(t, "Seqs", withSeqs(moved...)...)
			judged(t, "Seqs", laid(withSeqs(moved...)...))
		}
	}
}

// One Seq in each place is the one ahead again, or the one behind, or the first one.
func TestSeqsAtEachPlace(t *testing.T) {
	for _, by := range []int{1, 2, 16, 17, 300, 1000} {
		for _, from := range []int{0, 65000, 65535, 32767} {
			was := seqs(from, 32, by)
			good(t, withSeqs(was...)...)
			for at := 1; at < 32; at++ {
				for _, other := range []uint16{was[at-1], was[0], was[at-1] - 1, was[0] - 1, was[0] + 32768} {
					list := slices.Clone(was)
					list[at] = other
					impossible(t, "a Seq", withSeqs(list...)...)
					judged(t, "a Seq", laid(withSeqs(list...)...))
				}
				list := slices.Clone(was)
				list[at-1], list[at] = list[at], list[at-1]
				impossible(t, "two Seqs", withSeqs(list...)...)
				good(t, withSeqs(slices.Delete(slices.Clone(was), at, at+1)...)...)
			}
		}
	}
	for _, from := range []uint16{0, 60000} {
		good(t, withSeqs(from, from+1, from+16383, from+32766, from+32767)...)
		impossible(t, "the last Seq", withSeqs(from, from+1, from+16383, from+32767, from+32768)...)
	}
}

// full is a list of exactly n bytes, at least 1476, whose last packet is of a Kind.
func full(kind, n int) []rtcp.Packet {
	list := []rtcp.Packet{sample(1, 31), sample(2, 20), sample(kind, 1)}
	for size := 1; size <= 31 && len(laid(list...)) < n-4; size++ {
		list[1] = sample(2, size)
	}
	for len(list) < 6 && len(laid(list...)) != n {
		gap := n - len(laid(list...))
		list = slices.Insert(list, 2, sample(4, max(1, min(31, gap/4-1))))
		if len(laid(list...)) > n {
			list = slices.Delete(list, 2, 3)
			list[1].Reports = list[1].Reports[1:]
		}
	}
	return list
}

func TestTheNumberOfBytes(t *testing.T) {
	for kind := 1; kind <= 8; kind++ {
		for _, n := range []int{1488, 1492, 1496, 1500, 1504, 1508, 1512, 1520} {
			list := full(kind, n)
			if len(laid(list...)) != n {
				t.Fatalf("the test's own list has %d bytes, not %d", len(laid(list...)), n)
			}
			if n <= 1500 {
				good(t, list...)
			} else {
				impossible(t, "bytes", list...)
				refused(t, "bytes", laid(list...))
			}
		}
	}
}

// The packet that brings a list above MostBytes stands at each place.
func TestTheBytesOfAllPackets(t *testing.T) {
	for at := range 8 {
		list := slices.Repeat([]rtcp.Packet{sample(2, 7)}, 8) // 176 bytes each
		list[at] = sample(2, 7+3)                             // 8 * 176 and 72
		good(t, list...)
		list[at] = sample(1, 7+3) // and 20
		good(t, list...)
		list[at] = sample(1, 7+4) // and 24: more
		impossible(t, "bytes", list...)
		refused(t, "bytes", laid(list...))
		list[(at+1)%8].Reports = list[0].Reports[:6]
		good(t, list...)
	}
	impossible(t, "bytes", slices.Repeat([]rtcp.Packet{sample(1, 31)}, 8)...)
	impossible(t, "bytes", slices.Repeat([]rtcp.Packet{sample(1, 31)}, 2)...)
	impossible(t, "bytes", append([]rtcp.Packet{first()}, slices.Repeat([]rtcp.Packet{{Kind: 6, Arrivals: slices.Repeat([]int{-1}, 255)}}, 7)...)...)
}

// somethings are what a field may hold but nothing.
func somethings(field string) []any {
	switch field {
	case "Reports":
		return []any{make([]rtcp.Report, 1), reports(1), make([]rtcp.Report, 31)}
	case "Name":
		return []any{"a", "\x00", strings.Repeat("b", 64)}
	case "Sources":
		return []any{[]uint32{0}, []uint32{1, 2}}
	case "Seqs":
		return []any{[]uint16{0}, []uint16{1, 2}}
	case "Arrivals":
		return []any{[]int{0}, []int{rtcp.Lost}}
	case "Wanted":
		return []any{make([]rtcp.Want, 1), wanted(8)}
	}
	return []any{1, 2, 128, 255}
}

// set lays a value into a packet's field.
func set(p *rtcp.Packet, field string, value any) {
	f := reflect.ValueOf(p).Elem().FieldByName(field)
	f.Set(reflect.ValueOf(value).Convert(f.Type()))
}

// Each field that a Kind doesn't name, set alone; and each that it names.
func TestFieldsThatAKindDoesntName(t *testing.T) {
	shape := reflect.TypeOf(rtcp.Packet{})
	asked := 0
	for kind := 1; kind <= 8; kind++ {
		for i := 1; i < shape.NumField(); i++ {
			field := shape.Field(i).Name
			for _, value := range somethings(field) {
				for _, p := range []rtcp.Packet{sample(kind, 1), sample(kind, min(kind, 2))} {
					set(&p, field, value)
					if names(kind, field) {
						fine(t, p)
						continue
					}
					wrong(t, strconv.Itoa(kind)+" with "+field, p)
					asked++
				}
			}
		}
	}
	if asked == 0 {
		t.Error("nothing was asked")
	}
}

// Each two fields, of which a Kind doesn't name one or both.
func TestTwoFieldsThatAKindDoesntName(t *testing.T) {
	t.Parallel()
	shape := reflect.TypeOf(rtcp.Packet{})
	for kind := 1; kind <= 8; kind++ {
		for i := 1; i < shape.NumField(); i++ {
			for j := 1; j < i; j++ {
				one, two := shape.Field(i).Name, shape.Field(j).Name
				p := sample(kind, 1)
				set(&p, one, somethings(one)[0])
				set(&p, two, somethings(two)[0])
				if names(kind, one) && names(kind, two) {
					fine(t, p)
				} else {
					wrong(t, strconv.Itoa(kind)+" with "+one+" and "+two, p)
				}
			}
		}
	}
}

// A bit of a number that a Kind doesn't name.
func TestBitsThatAKindDoesntName(t *testing.T) {
	shape := reflect.TypeOf(rtcp.Packet{})
	for kind := 1; kind <= 8; kind++ {
		for i := 1; i < shape.NumField(); i++ {
			if shape.Field(i).Type.Kind() == reflect.Slice || shape.Field(i).Type.Kind() == reflect.String {
				continue
			}
			for bit := range shape.Field(i).Type.Bits() {
				p := sample(kind, 1)
				set(&p, shape.Field(i).Name, uint64(1)<<bit)
				switch {
				case !names(kind, shape.Field(i).Name):
					wrong(t, "a bit", p)
				case shape.Field(i).Name == "Ref" && bit >= 24:
					wrong(t, "a bit of Ref", p)
				default:
					fine(t, p)
				}
			}
		}
	}
}

// Lists of nothing are as good as none where a Kind doesn't name them.
func TestListsOfNothing(t *testing.T) {
	for _, p := range packets() {
		want := laid(first(), p)
		if p.Reports == nil {
			p.Reports = []rtcp.Report{}
		}
		if p.Sources == nil {
			p.Sources = []uint32{}
		}
		if p.Seqs == nil {
			p.Seqs = []uint16{}
		}
		if p.Arrivals == nil {
			p.Arrivals = []int{}
		}
		if p.Wanted == nil {
			p.Wanted = []rtcp.Want{}
		}
		both(t, []rtcp.Packet{first(), p}, want)
	}
}

// What breaks several of the words' bounds, or one by far, ends and is refused.
func TestBuildOfAnything(t *testing.T) {
	huge := rtcp.Packet{Kind: 1, Reports: make([]rtcp.Report, 1<<20), Name: strings.Repeat("x", 1<<20), Sources: make([]uint32, 1<<20), Seqs: make([]uint16, 1<<20),
		Arrivals: slices.Repeat([]int{math.MaxInt}, 1<<20), Wanted: make([]rtcp.Want, 1<<20), Ref: 1<<32 - 1, Base: 65535, Count: 255, Ntp: 1<<64 - 1}
	for _, kind := range append([]int{1, 2, 3, 4, 5, 6, 7, 8}, strange...) {
		huge.Kind = kind
		impossible(t, "anything", huge)
		impossible(t, "anything", first(), huge)
		impossible(t, "anything", slices.Repeat([]rtcp.Packet{huge}, 9)...)
	}
}
