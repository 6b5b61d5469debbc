package wire_test

import (
	"bytes"
	"math"
	"testing"

	"rostrum/wire"
)

func TestReaderReadsInOrder(t *testing.T) {
	r := wire.NewReader([]byte{0xff, 0xfe, 0xfd, 0xfc, 0xfb, 0xfa, 0xf9, 1, 2, 3})
	if r.Left() != 10 || r.U8() != 0xff || r.Left() != 9 {
		t.Error("U8")
	}
	if r.U16() != 0xfefd || r.Left() != 7 {
		t.Error("U16")
	}
	if r.U32() != 0xfcfbfaf9 || r.Left() != 3 {
		t.Error("U32")
	}
	if !bytes.Equal(r.Take(2), []byte{1, 2}) || r.Left() != 1 {
		t.Error("Take")
	}
	if r.U8() != 3 || r.Left() != 0 || r.Bad() {
		t.Error("the last byte")
	}
	if len(r.Take(0)) != 0 || r.Bad() {
		t.Error("Take(0) at the end is good")
	}
}

// Each read that asks for one byte too many answers nothing, reads nothing and spoils the reader.
func TestReaderTooFew(t *testing.T) {
	reads := map[string]struct {
		size int
		read func(*wire.Reader) int
	}{
		"U8":       {1, func(r *wire.Reader) int { return int(r.U8()) }},
		"U16":      {2, func(r *wire.Reader) int { return int(r.U16()) }},
		"U32":      {4, func(r *wire.Reader) int { return int(r.U32()) }},
		"Take":     {3, func(r *wire.Reader) int { return len(r.Take(3)) }},
		"Take all": {5, func(r *wire.Reader) int { return len(r.Take(math.MaxInt)) }},
		"Take -1":  {5, func(r *wire.Reader) int { return len(r.Take(-1)) }},
		"Take min": {5, func(r *wire.Reader) int { return len(r.Take(math.MinInt)) }},
	}
	for name, c := range reads {
		r := wire.NewReader(bytes.Repeat([]byte{9}, c.size-1))
		if c.read(r) != 0 || !r.Bad() || r.Left() != c.size-1 {
			t.Error(name, r.Bad(), r.Left())
		}
		if r.U8() != 0 || r.U16() != 0 || r.U32() != 0 || len(r.Take(1)) != 0 || len(r.Take(0)) != 0 {
			t.Error(name, "a bad reader answers nothing")
		}
		if !r.Bad() || r.Left() != c.size-1 {
			t.Error(name, "a bad reader reads nothing")
		}
	}
}

func TestReaderKeepsItsBytesToItself(t *testing.T) {
	in := []byte{1, 2, 3, 4, 5, 6}
	r := wire.NewReader(in[:5])
	in[0] = 99
	one, two := r.Take(2), r.Take(2)
	if !bytes.Equal(one, []byte{1, 2}) {
		t.Error("what was handed in is kept", one)
	}
	for _, b := range [][]byte{one, two} {
		for i := range b[:cap(b)] {
			b[:cap(b)][i] = 77
		}
	}
	if !bytes.Equal(in, []byte{99, 2, 3, 4, 5, 6}) || !bytes.Equal(one, []byte{77, 77}) || !bytes.Equal(two, []byte{77, 77}) || r.U8() != 5 {
		t.Error("an answer shares memory", in, one, two)
	}
	if again := wire.NewReader(in); again.U8() != 99 || r.Left() != 0 {
		t.Error("readers share a place")
	}
}

func TestReaderOfNothing(t *testing.T) {
	r := wire.NewReader(nil)
	if r == nil || r.Left() != 0 || r.Bad() || len(r.Take(0)) != 0 || r.Bad() {
		t.Error("no bytes")
	}
	var none *wire.Reader
	if none.Left() != 0 || none.U8() != 0 || none.U16() != 0 || none.U32() != 0 || len(none.Take(1)) != 0 || !none.Bad() {
		t.Error("nil")
	}
}
