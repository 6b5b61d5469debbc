package stun_test

import (
	"bytes"
	"encoding/binary"
	"encoding/hex"
	"math"
	"testing"

	"rostrum/api"
	"rostrum/stun"
)

// both asks Build and Parse whether b is m's bytes.
func both(t *testing.T, m stun.Message, b []byte) {
	t.Helper()
	if got, e := stun.Build(m); e != api.OK || !bytes.Equal(got, b) {
		t.Errorf("Build of %v: %v %x", m, e, got)
	}
	if got, e := stun.Parse(b); e != api.OK || !same(got, m) {
		t.Errorf("Parse of %x: %v %v", b, e, got)
	}
}

// refused asks whether b is no message's bytes.
func refused(t *testing.T, what string, b []byte) {
	t.Helper()
	if m, e := stun.Parse(b); e != api.ErrForm || !zero(m) {
		t.Errorf("%s: Parse of %x: %v %v", what, b, e, m)
	}
	if m, e := stun.Check(b, []byte("key")); e != api.ErrForm || !zero(m) {
		t.Errorf("%s: Check of %x: %v %v", what, b, e, m)
	}
}

// impossible asks whether m is no message.
func impossible(t *testing.T, what string, m stun.Message) {
	t.Helper()
	if b, e := stun.Build(m); e != api.ErrArg || len(b) != 0 {
		t.Errorf("%s: Build: %v %x", what, e, b)
	}
	if b, e := stun.Sign(m, []byte("key")); e != api.ErrArg || len(b) != 0 {
		t.Errorf("%s: Sign: %v %x", what, e, b)
	}
}

func TestBytesExamples(t *testing.T) {
	for _, c := range []struct {
		class, method int
		want          string
	}{
		{0, 1, "000100002112a442"}, {1, 1, "001100002112a442"}, {2, 1, "010100002112a442"}, {3, 1, "011100002112a442"},
		{0, 0, "000000002112a442"}, {3, 4095, "3fff00002112a442"}, {0, 0xf80, "3e0000002112a442"}, {0, 0x70, "00e000002112a442"},
		{0, 0xf, "000f00002112a442"}, {2, 0x80, "030000002112a442"}, {1, 0x10, "003000002112a442"},
	} {
		b, err := hex.DecodeString(c.want)
		if err != nil {
			t.Fatal(err)
		}
		both(t, message(c.class, c.method), append(b, id[:]...))
	}
}

// RFC 5769's 2.4: the one of its messages whose Values are filled up with noughts.
const longTerm = "000100602112a44278ad3433c6ad72c029da412e" +
	"00060012e3839ee38388e383aae38383e382afe382b90000" +
	"0015001c662f2f3439396b39353464364f4c33346f4c394653547679363473410014000b6578616d706c652e6f726700"

func TestParseOfRFC5769(t *testing.T) {
	b, err := hex.DecodeString(longTerm + "00080014f67024656dd64a3e02b8e0712e85c9a28ca89666")
	if err != nil {
		t.Fatal(err)
	}
	m, e := stun.Parse(b)
	if e != api.OK || m.Class != 0 || m.Method != 1 || m.ID != [12]byte(b[8:20]) || len(m.Attrs) != 4 {
		t.Fatal(e, m)
	}
	for kind, want := range map[uint16]string{6: "マトリックス", 0x15: "f//499k954d6OL34oL9FSTvy64sA", 0x14: "example.org", 8: string(b[96:])} {
		if v, ok := stun.Find(m, kind); !ok || string(v) != want {
			t.Errorf("%d: %q %v", kind, v, ok)
		}
	}
}

func TestEveryClassAndMethod(t *testing.T) {
	for class := range 4 {
		for method := range 4096 {
			both(t, message(class, method), laid(class, method))
		}
	}
}

func TestClassesAndMethodsThatAreNone(t *testing.T) {
	for _, v := range []int{-1, -2, -4096, 4096, 4097, 8191, 1 << 16, math.MaxInt, math.MinInt} {
		impossible(t, "a Method", message(0, v))
		impossible(t, "a Method", message(3, v, many(2, 4)...))
		impossible(t, "a Class", message(v, 0))
	}
	for _, v := range []int{4, 5, 7, 8, 256} {
		impossible(t, "a Class", message(v, 1))
	}
}

func TestEveryID(t *testing.T) {
	for i := range 12 {
		m := stun.Message{Method: 1}
		m.ID[i] = 0xff
		b := make([]byte, 20)
		copy(b, "\x00\x01\x00\x00\x21\x12\xa4\x42")
		b[8+i] = 0xff
		both(t, m, b)
	}
}

func TestValuesOfEveryLength(t *testing.T) {
	for n := range 513 {
		one := []stun.Attr{{Type: uint16(n * 127), Value: value(n)}}
		both(t, message(0, 1, one...), laid(0, 1, one...))
		// Another one behind it, so that the noughts matter.
		two := append(one, stun.Attr{Type: 0xfffe, Value: value(n%5 + 1)})
		both(t, message(2, 1, two...), laid(2, 1, two...))
	}
	for _, n := range []int{513, 514, 515, 516, 1024, 1476, 1480, 65535, 65536, 65540} {
		list := []stun.Attr{{Type: 6, Value: value(n)}}
		impossible(t, "a Value", message(0, 1, list...))
		impossible(t, "a Value behind others", message(0, 1, append(many(3, 1), list...)...))
		if n < 1476 {
			refused(t, "a Value", laid(0, 1, list...))
			refused(t, "a Value behind others", laid(0, 1, append(many(3, 1), list...)...))
		}
	}
}

func TestValuesOfAllBytes(t *testing.T) {
	for v := range 256 {
		list := []stun.Attr{{Type: uint16(v), Value: []byte{byte(v)}}, {Type: uint16(v << 8), Value: bytes.Repeat([]byte{byte(v)}, 6)}}
		both(t, message(1, 3, list...), laid(1, 3, list...))
	}
}

func TestTheNumberOfAttributes(t *testing.T) {
	for n := range 17 {
		for _, size := range []int{0, 1, 4, 80} {
			both(t, message(0, 1, many(n, size)...), laid(0, 1, many(n, size)...))
		}
	}
	for _, n := range []int{17, 18, 20, 32, 370} {
		impossible(t, "attributes", message(0, 1, many(n, 0)...))
		refused(t, "attributes", laid(0, 1, many(n, 0)...))
	}
	impossible(t, "attributes", message(0, 1, many(70000, 0)...))
}

func TestOneTypeMayStandTwice(t *testing.T) {
	list := []stun.Attr{{Type: 6, Value: []byte("a")}, {Type: 6, Value: []byte("b")}, {Type: 6}, {Type: 6, Value: []byte("a")}}
	both(t, message(0, 1, list...), laid(0, 1, list...))
}

// 1480 bytes of attributes: 512, 512 and the rest, each with the 4 bytes ahead.
func TestTheNumberOfBytes(t *testing.T) {
	for rest := 430; rest <= 448; rest++ {
		list := append(many(2, 512), stun.Attr{Type: 6, Value: value(rest)})
		if b := laid(0, 1, list...); len(b) <= 1500 {
			both(t, message(0, 1, list...), b)
		} else {
			impossible(t, "bytes", message(0, 1, list...))
			refused(t, "bytes", b)
		}
	}
	if b := laid(0, 1, append(many(2, 512), stun.Attr{Value: value(444)})...); len(b) != 1500 {
		t.Fatal("the test's own bytes:", len(b))
	}
	impossible(t, "bytes", message(0, 1, many(16, 512)...))
	refused(t, "bytes", laid(0, 1, many(16, 512)...))
	refused(t, "bytes", laid(0, 1, many(3, 512)...))
	for _, n := range []int{1501, 1504, 65536, 65556, 1 << 20} {
		refused(t, "bytes", append(head(0, 1, n-20), make([]byte, n-20)...))
		refused(t, "bytes", append(head(0, 1, 0), make([]byte, n-20)...))
	}
}

func TestTheFirstTwoBits(t *testing.T) {
	for _, list := range [][]stun.Attr{nil, many(2, 5)} {
		for _, bits := range []byte{0x40, 0x80, 0xc0} {
			for _, class := range []int{0, 3} {
				for _, method := range []int{0, 1, 4095} {
					b := laid(class, method, list...)
					b[0] |= bits
					refused(t, "the first bits", b)
				}
			}
		}
	}
}

func TestTheCookie(t *testing.T) {
	for i := 4; i < 8; i++ {
		for bit := range 8 {
			b := laid(0, 1, many(1, 4)...)
			b[i] ^= 1 << bit
			refused(t, "2112a442", b)
		}
	}
}

func TestTheLength(t *testing.T) {
	for _, list := range [][]stun.Attr{nil, many(1, 0), many(1, 4), many(3, 7), many(16, 12)} {
		good := laid(0, 1, list...)
		for n := range 65536 {
			if n == len(good)-20 {
				continue
			}
			b := bytes.Clone(good)
			binary.BigEndian.PutUint16(b[2:], uint16(n))
			if m, e := stun.Parse(b); e != api.ErrForm || !zero(m) {
				t.Fatalf("a length of %d for %d: %v %v", n, len(good)-20, e, m)
			}
		}
	}
}

// Bytes that end early, with the length as it was and with that of what is left.
func TestBytesThatEndEarly(t *testing.T) {
	good := laid(0, 1, many(4, 9)...)
	ends := map[int]bool{20: true, 36: true, 52: true, 68: true}
	for n := range good {
		refused(t, "an end", good[:n])
		if n < 20 || ends[n] {
			continue
		}
		b := bytes.Clone(good[:n])
		binary.BigEndian.PutUint16(b[2:], uint16(n-20))
		refused(t, "an end of an attribute", b)
	}
	for n := range ends {
		b := bytes.Clone(good[:n])
		binary.BigEndian.PutUint16(b[2:], uint16(n-20))
		both(t, message(0, 1, many(4, 9)[:n/16-1]...), b)
	}
	refused(t, "nothing", nil)
	refused(t, "nothing", []byte{})
}

func TestBytesThatEndLate(t *testing.T) {
	good := laid(0, 1, many(2, 4)...)
	for n := 1; n < 12; n++ {
		for _, v := range []byte{0, 1, 0xff} {
			refused(t, "more bytes than the length", append(bytes.Clone(good), bytes.Repeat([]byte{v}, n)...))
		}
	}
	for n := 1; n < 4; n++ {
		b := append(bytes.Clone(good), make([]byte, n)...)
		binary.BigEndian.PutUint16(b[2:], uint16(len(b)-20))
		refused(t, "no whole attribute", b)
	}
}

// A Value's length that reaches behind the message's end, or too little.
func TestTheLengthOfAValue(t *testing.T) {
	good := laid(0, 1, stun.Attr{Type: 6, Value: value(8)})
	for n := range 65536 {
		if n == 8 {
			continue
		}
		b := bytes.Clone(good)
		binary.BigEndian.PutUint16(b[22:], uint16(n))
		if m, e := stun.Parse(b); e != api.ErrForm || !zero(m) {
			t.Fatalf("a length of %d for 8: %v %v", n, e, m)
		}
	}
}

func TestTheNoughtsBehindAValue(t *testing.T) {
	for n := range 40 {
		good := laid(0, 1, stun.Attr{Type: 6, Value: value(n)}, stun.Attr{Type: 7, Value: value(n + 1)})
		for i := 24 + n; i < 24+n+(-n&3); i++ {
			for bit := range 8 {
				b := bytes.Clone(good)
				b[i] ^= 1 << bit
				refused(t, "the first one's noughts", b)
			}
		}
		for i := len(good) - (-(n + 1) & 3); i < len(good); i++ {
			b := bytes.Clone(good)
			b[i] = ' '
			refused(t, "the last one's noughts", b)
		}
	}
}

// An error tells nothing of what was read ahead of it, wherever it stands.
func TestTheLastAttributeIsWrong(t *testing.T) {
	for n := range 16 {
		b := laid(3, 4095, append(many(n, 8), stun.Attr{Type: 1, Value: []byte{1}})...)
		b[len(b)-1] = 9
		refused(t, "the last attribute", b)
	}
}

func TestBuildMemory(t *testing.T) {
	for _, list := range [][]stun.Attr{many(1, 3), many(5, 8), many(16, 70)} {
		was := message(0, 1, list...)
		m := roomyMessage(was)
		first, _ := stun.Build(m)
		spoil(first)
		if !asBefore(m, was) {
			t.Error("written to:", m)
		}
		if again, e := stun.Build(m); e != api.OK || !bytes.Equal(again, laid(0, 1, list...)) {
			t.Error(e, again)
		}
	}
	bad := roomyMessage(message(0, 1, many(17, 3)...))
	if _, e := stun.Build(bad); e != api.ErrArg || !asBefore(bad, message(0, 1, many(17, 3)...)) {
		t.Error(e, bad)
	}
}

func TestParseMemory(t *testing.T) {
	was := laid(0, 1, many(6, 7)...)
	b := roomy(was)
	m, _ := stun.Parse(b)
	if !untouched(b, was) {
		t.Error("written to:", b)
	}
	spoil(b)
	if !same(m, message(0, 1, many(6, 7)...)) {
		t.Error("kept:", m)
	}
	for i := range m.Attrs {
		spoil(m.Attrs[i].Value)
		for j := range m.Attrs {
			if j > i && !bytes.Equal(m.Attrs[j].Value, value(7)) {
				t.Error("shared:", i, j)
			}
		}
	}
	if again, e := stun.Parse(was); e != api.OK || !same(again, message(0, 1, many(6, 7)...)) {
		t.Error(e, again)
	}
}

// Whatever bytes there are: what Parse takes, Build gives back.
func TestParseOfChangedBytes(t *testing.T) {
	good := laid(0, 1, many(3, 5)...)
	for i := range good {
		for v := range 256 {
			b := bytes.Clone(good)
			b[i] = byte(v)
			m, e := stun.Parse(b)
			if e != api.OK {
				continue
			}
			if back, e := stun.Build(m); e != api.OK || !bytes.Equal(back, b) {
				t.Fatalf("%x: %v %x", b, e, back)
			}
		}
	}
}
