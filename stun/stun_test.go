package stun_test

import (
	"bytes"
	"encoding/binary"
	"fmt"
	"reflect"
	"strconv"
	"testing"

	"rostrum/api"
	"rostrum/stun"
)

// id is the ID of most messages here.
var id = [12]byte{0xb7, 0xe7, 0xa7, 0x01, 0xbc, 0x34, 0xd6, 0x86, 0xfa, 0x87, 0xdf, 0xae}

// head is the first 20 bytes as the chapter tells them, the first two by their bits as text.
func head(class, method, length int) []byte {
	m, c := fmt.Sprintf("%012b", method), fmt.Sprintf("%02b", class)
	kind, err := strconv.ParseUint("00"+m[:5]+c[:1]+m[5:8]+c[1:]+m[8:], 2, 16)
	if err != nil {
		panic(err)
	}
	b := binary.BigEndian.AppendUint16(nil, uint16(kind))
	b = binary.BigEndian.AppendUint16(b, uint16(length))
	return append(append(b, 0x21, 0x12, 0xa4, 0x42), id[:]...)
}

// attrs is the bytes of attributes.
func attrs(list ...stun.Attr) []byte {
	var b []byte
	for _, a := range list {
		b = binary.BigEndian.AppendUint16(b, a.Type)
		b = binary.BigEndian.AppendUint16(b, uint16(len(a.Value)))
		b = append(b, a.Value...)
		for len(b)%4 != 0 {
			b = append(b, 0)
		}
	}
	return b
}

// laid is the bytes of a message of these attributes.
func laid(class, method int, list ...stun.Attr) []byte {
	body := attrs(list...)
	return append(head(class, method, len(body)), body...)
}

// message is a message of these attributes, with id.
func message(class, method int, list ...stun.Attr) stun.Message {
	return stun.Message{Class: class, Method: method, ID: id, Attrs: list}
}

// value is n bytes, none of them 0, that differ by n.
func value(n int) []byte {
	b := make([]byte, n)
	for i := range b {
		b[i] = byte(1 + (i*7+n)%255)
	}
	return b
}

// many is n attributes with Values of size bytes.
func many(n, size int) []stun.Attr {
	var list []stun.Attr
	for i := range n {
		list = append(list, stun.Attr{Type: uint16(0x100 + i), Value: value(size)})
	}
	return list
}

// same tells whether two messages are one and the same; no attributes may be nil or empty.
func same(a, b stun.Message) bool {
	if a.Class != b.Class || a.Method != b.Method || a.ID != b.ID || len(a.Attrs) != len(b.Attrs) {
		return false
	}
	for i := range a.Attrs {
		if a.Attrs[i].Type != b.Attrs[i].Type || !bytes.Equal(a.Attrs[i].Value, b.Attrs[i].Value) {
			return false
		}
	}
	return true
}

// zero tells whether m is the message beside an error.
func zero(m stun.Message) bool {
	return m.Class == 0 && m.Method == 0 && m.ID == [12]byte{} && len(m.Attrs) == 0
}

// roomy is b with spare room behind it that is not noughts.
func roomy(b []byte) []byte {
	all := bytes.Repeat([]byte{0xa5}, len(b)+100)
	copy(all, b)
	return all[:len(b)]
}

// untouched tells whether b, from roomy, and its spare room are as they were.
func untouched(b, was []byte) bool {
	spare := b[len(b):cap(b)]
	return bytes.Equal(b, was) && bytes.Count(spare, []byte{0xa5}) == 100
}

// roomyMessage is m with spare room behind its attributes and behind each Value.
func roomyMessage(m stun.Message) stun.Message {
	all := make([]stun.Attr, len(m.Attrs)+10)
	for i := range all {
		all[i] = stun.Attr{Type: 0xa5a5, Value: roomy(nil)}
		if i < len(m.Attrs) {
			all[i] = stun.Attr{Type: m.Attrs[i].Type, Value: roomy(m.Attrs[i].Value)}
		}
	}
	m.Attrs = all[:len(m.Attrs)]
	return m
}

// asBefore tells whether got, from roomyMessage of m, and its spare rooms are as they were.
func asBefore(got, m stun.Message) bool {
	return reflect.DeepEqual(whole(got), whole(roomyMessage(m)))
}

// whole is all that m's lists hold, their spare room too.
func whole(m stun.Message) stun.Message {
	m.Attrs = bytesWhole(m.Attrs[:cap(m.Attrs)])
	return m
}

func bytesWhole(list []stun.Attr) []stun.Attr {
	var out []stun.Attr
	for _, a := range list {
		out = append(out, stun.Attr{Type: a.Type, Value: bytes.Clone(a.Value[:cap(a.Value)])})
	}
	return out
}

// spoil writes over all of b, its spare room too.
func spoil(b []byte) {
	b = b[:cap(b)]
	for i := range b {
		b[i] = ^b[i]
	}
}

func TestFindTakesTheFirst(t *testing.T) {
	m := message(0, 1,
		stun.Attr{Type: 7, Value: []byte("seven")},
		stun.Attr{Type: 6, Value: []byte("first")},
		stun.Attr{Type: 0},
		stun.Attr{Type: 6, Value: []byte("second")},
		stun.Attr{Type: 65535, Value: []byte("last")},
	)
	for kind, want := range map[uint16]string{6: "first", 7: "seven", 0: "", 65535: "last"} {
		if v, ok := stun.Find(m, kind); !ok || string(v) != want {
			t.Errorf("%d: %q %v", kind, v, ok)
		}
	}
	for _, kind := range []uint16{1, 5, 8, 0x600, 32767, 65534} {
		if v, ok := stun.Find(m, kind); ok || len(v) != 0 {
			t.Errorf("%d: %q %v", kind, v, ok)
		}
	}
}

func TestFindInWhatIsNoMessage(t *testing.T) {
	if v, ok := stun.Find(stun.Message{}, 0); ok || len(v) != 0 {
		t.Error(v, ok)
	}
	long := value(513)
	m := stun.Message{Class: -1, Method: 9999, Attrs: append(many(40, 0), stun.Attr{Type: 9, Value: long})}
	if v, ok := stun.Find(m, 9); !ok || !bytes.Equal(v, long) {
		t.Error(v, ok)
	}
}

func TestFindAnswersNewMemory(t *testing.T) {
	was := message(0, 1, stun.Attr{Type: 6, Value: []byte("abc")}, stun.Attr{Type: 7, Value: []byte("d")})
	m := roomyMessage(was)
	v, _ := stun.Find(m, 6)
	spoil(v)
	if !asBefore(m, was) {
		t.Error(m)
	}
	if v, ok := stun.Find(m, 6); !ok || string(v) != "abc" {
		t.Error(v, ok)
	}
}

func TestFailure(t *testing.T) {
	for code, want := range map[int][2]byte{
		0: {0, 0}, 1: {0, 1}, 99: {0, 99}, 100: {1, 0}, 101: {1, 1}, 199: {1, 99}, 300: {3, 0},
		400: {4, 0}, 401: {4, 1}, 487: {4, 87}, 500: {5, 0}, 699: {6, 99}, 700: {7, 0},
		25599: {255, 99}, 25600: {0, 0}, 25601: {0, 1}, 25700: {1, 0}, 26099: {4, 99}, 51199: {255, 99}, 51200: {0, 0},
		1<<31 - 1: {byte((1<<31 - 1) / 100 % 256), 47}, 1<<63 - 1: {byte((1<<63 - 1) / 100 % 256), 7},
		-1: {0, 0}, -99: {0, 0}, -100: {0, 0}, -487: {0, 0}, -25600: {0, 0}, -1 << 63: {0, 0},
	} {
		m := message(0, 1, many(3, 5)...)
		want := message(3, 1, stun.Attr{Type: 9, Value: []byte{0, 0, want[0], want[1]}})
		if got := stun.Failure(m, code); !same(got, want) {
			t.Errorf("%d: %v", code, got)
		}
	}
}

func TestFailureOfEachMessage(t *testing.T) {
	for _, m := range []stun.Message{
		{}, message(0, 0), message(1, 4095), message(2, 7, many(16, 80)...), message(3, 0x2a5),
		{Class: 4, Method: 4096}, {Class: -1, Method: -1}, message(9, 1<<40, many(17, 513)...),
	} {
		want := stun.Message{Class: 3, Method: m.Method, ID: m.ID, Attrs: []stun.Attr{{Type: 9, Value: []byte{0, 0, 4, 1}}}}
		if got := stun.Failure(m, 401); !same(got, want) {
			t.Errorf("%v: %v", m, got)
		}
	}
}

func TestFailureLeavesItsMessage(t *testing.T) {
	was := message(0, 1, many(2, 3)...)
	m := roomyMessage(was)
	first := stun.Failure(m, 487)
	spoil(first.Attrs[0].Value)
	first.Attrs[0].Type = 0
	if !asBefore(m, was) {
		t.Error(m)
	}
	if again := stun.Failure(m, 487); !bytes.Equal(again.Attrs[0].Value, []byte{0, 0, 4, 87}) || again.Attrs[0].Type != 9 {
		t.Error(again)
	}
}

func TestAddresses(t *testing.T) {
	for _, a := range []api.Addr{
		{}, {IP: 0xc0000201, Port: 32853}, {IP: 0xffffffff, Port: 65535}, {IP: 0x2112a442, Port: 0x2112},
		{IP: 1, Port: 0x100}, {IP: 0x01020304, Port: 0x0506}, {IP: 0x80000000, Port: 0x8000}, {Port: 1}, {IP: 1 << 8},
	} {
		want := binary.BigEndian.AppendUint16([]byte{0, 1}, a.Port^0x2112)
		want = binary.BigEndian.AppendUint32(want, a.IP^0x2112a442)
		if got := stun.Mapped(a); !bytes.Equal(got, want) {
			t.Errorf("%v: %x", a, got)
		}
		if got, e := stun.ReadMapped(want); got != a || e != api.OK {
			t.Errorf("%v: %v %v", a, got, e)
		}
	}
	if got := stun.Mapped(api.Addr{IP: 0xc0000201, Port: 32853}); string(got) != "\x00\x01\xa1\x47\xe1\x12\xa6\x43" {
		t.Errorf("RFC 5769's address: %x", got)
	}
}

func TestBytesThatAreNoAddress(t *testing.T) {
	good := []byte("\x00\x01\xa1\x47\xe1\x12\xa6\x43")
	bad := [][]byte{nil, {}, append(bytes.Clone(good), 0), append(bytes.Clone(good), good...), make([]byte, 8), make([]byte, 20)}
	for n := range good {
		bad = append(bad, good[:n])
	}
	for v := 1; v < 256; v++ {
		bad = append(bad, append([]byte{byte(v), 1}, good[2:]...))
	}
	for v := range 256 {
		if v != 1 {
			bad = append(bad, append([]byte{0, byte(v)}, good[2:]...))
		}
	}
	bad = append(bad, append([]byte{0, 2}, make([]byte, 18)...))
	for _, b := range bad {
		if a, e := stun.ReadMapped(b); a != (api.Addr{}) || e != api.ErrForm {
			t.Errorf("%x: %v %v", b, a, e)
		}
	}
}

func TestAddressesMemory(t *testing.T) {
	a := api.Addr{IP: 0xc0000201, Port: 32853}
	first := stun.Mapped(a)
	was := bytes.Clone(first)
	spoil(first)
	if again := stun.Mapped(a); !bytes.Equal(again, was) {
		t.Errorf("%x", again)
	}
	b := roomy(was)
	if got, e := stun.ReadMapped(b); got != a || e != api.OK || !untouched(b, was) {
		t.Error(got, e, b)
	}
}
