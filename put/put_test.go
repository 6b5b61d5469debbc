package put_test

import (
	"encoding/binary"
	"testing"

	"rostrum/put"
)

func TestU16(t *testing.T) {
	for v := range 1 << 16 {
		want := binary.BigEndian.AppendUint16([]byte("ahead"), uint16(v))
		if got := put.U16([]byte("ahead"), uint16(v)); string(got) != string(want) {
			t.Fatalf("%d: %x", v, got)
		}
	}
	if got := put.U16(nil, 0x0102); string(got) != "\x01\x02" {
		t.Errorf("behind nothing: %x", got)
	}
}

func TestU32(t *testing.T) {
	for bit := range 32 {
		for _, v := range []uint32{1 << bit, ^uint32(0) << bit, 0x01020304 << bit, 0x01020304 >> bit} {
			want := binary.BigEndian.AppendUint32([]byte("ahead"), v)
			if got := put.U32([]byte("ahead"), v); string(got) != string(want) {
				t.Errorf("%x: %x", v, got)
			}
		}
	}
	if got := put.U32(nil, 0x01020304); string(got) != "\x01\x02\x03\x04" {
		t.Errorf("behind nothing: %x", got)
	}
}

func TestU24(t *testing.T) {
	for bit := range 32 {
		for _, v := range []uint32{1 << bit, ^uint32(0) << bit, 0x01020304 << bit, 0x01020304 >> bit} {
			want := "ahead" + string(binary.BigEndian.AppendUint32(nil, v)[1:])
			if got := put.U24([]byte("ahead"), v); string(got) != want {
				t.Errorf("%x: %x", v, got)
			}
		}
	}
	if got := put.U24(nil, 0x010203); string(got) != "\x01\x02\x03" {
		t.Errorf("behind nothing: %x", got)
	}
}

func TestU64(t *testing.T) {
	for bit := range 64 {
		for _, v := range []uint64{1 << bit, ^uint64(0) << bit, 0x0102030405060708 << bit, 0x0102030405060708 >> bit} {
			want := binary.BigEndian.AppendUint64([]byte("ahead"), v)
			if got := put.U64([]byte("ahead"), v); string(got) != string(want) {
				t.Errorf("%x: %x", v, got)
			}
		}
	}
	if got := put.U64(nil, 0x0102030405060708); string(got) != "\x01\x02\x03\x04\x05\x06\x07\x08" {
		t.Errorf("behind nothing: %x", got)
	}
}
