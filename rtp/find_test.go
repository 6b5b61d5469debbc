package rtp_test

import (
	"bytes"
	"math"
	"testing"

	"rostrum/rtp"
)

// found asks for an Ext's bytes.
func found(t *testing.T, p rtp.Packet, id int, want string) {
	t.Helper()
	if v, ok := rtp.Find(p, id); !ok || string(v) != want {
		t.Errorf("%d in %v: %q %v", id, p.Exts, v, ok)
	}
}

// missed asks for an Ext that isn't there.
func missed(t *testing.T, p rtp.Packet, id int) {
	t.Helper()
	if v, ok := rtp.Find(p, id); ok || len(v) != 0 {
		t.Errorf("%d in %v: %q %v", id, p.Exts, v, ok)
	}
}

func TestFindTakesTheFirst(t *testing.T) {
	p := rtp.Packet{Exts: []rtp.Ext{
		{ID: 3, Data: []byte("three")}, {ID: 1, Data: []byte("first")}, {ID: 14, Data: []byte{0}},
		{ID: 1, Data: []byte("second")}, {ID: 3, Data: []byte("later")}, {ID: 7, Data: []byte("last")},
	}}
	for id, want := range map[int]string{1: "first", 3: "three", 7: "last", 14: "\x00"} {
		found(t, p, id, want)
	}
	for _, id := range []int{2, 4, 6, 8, 13, 0, 15, -1, 16, 17, 257, 1<<32 + 1, math.MinInt, math.MaxInt} {
		missed(t, p, id)
	}
}

func TestFindOfEachID(t *testing.T) {
	for n := range 15 {
		p := with(1, full(n, 9), value(3), 2)
		for id := -1; id <= 16; id++ {
			if id >= 1 && id <= n {
				found(t, p, id, string(value(9)))
			} else {
				missed(t, p, id)
			}
		}
	}
}

func TestFindWithoutExts(t *testing.T) {
	for _, p := range []rtp.Packet{{}, {Exts: []rtp.Ext{}}, with(15, nil, value(9), 9)} {
		for _, id := range []int{0, 1, 14, 15, -1} {
			missed(t, p, id)
		}
	}
}

func TestFindInPacketsThatAreNotGood(t *testing.T) {
	long := value(1 << 16)
	p := rtp.Packet{Type: -1, Pad: -1, Contribs: contribs(99), Payload: value(2000), Exts: full(40, 3)}
	p.Exts = append(p.Exts, rtp.Ext{ID: 0, Data: []byte("nought")}, rtp.Ext{ID: 15, Data: []byte("fifteen")}, rtp.Ext{ID: -7},
		rtp.Ext{ID: math.MaxInt, Data: long}, rtp.Ext{ID: math.MinInt, Data: []byte{}}, rtp.Ext{ID: -7, Data: []byte("later")})
	for id, want := range map[int]string{0: "nought", 15: "fifteen", -7: "", math.MaxInt: string(long), math.MinInt: "", 14: string(value(3))} {
		found(t, p, id, want)
	}
	missed(t, p, 16)
	missed(t, p, -1)
}

// An Ext without Data is found: no bytes, and true.
func TestFindOfAnExtWithoutData(t *testing.T) {
	for _, none := range [][]byte{nil, {}, value(9)[:0]} {
		p := rtp.Packet{Exts: []rtp.Ext{{ID: 4, Data: none}, {ID: 4, Data: []byte("behind")}, {ID: 5, Data: []byte("x")}}}
		found(t, p, 4, "")
		found(t, p, 5, "x")
		missed(t, p, 6)
	}
}

func TestFindInWhatIsParsed(t *testing.T) {
	for _, p := range packets() {
		got, _ := rtp.Parse(laid(p))
		for _, x := range p.Exts {
			if v, ok := rtp.Find(got, x.ID); !ok || !bytes.Equal(v, x.Data) {
				t.Errorf("%v: %x %v", x, v, ok)
			}
		}
		missed(t, got, len(p.Exts)+9)
	}
}
