package srtp_test

import (
	"bytes"
	"encoding/binary"
	"encoding/hex"
	"testing"

	"rostrum/api"
	"rostrum/srtp"
)

const maxControl = 2147483647 // 2^31 - 1

// The library whose packet it is begins at 1.
func TestControlPublished(t *testing.T) {
	c := srtp.New(published)
	c.ProtectControl(fromHex(plainControl))
	x, e := c.ProtectControl(fromHex(plainControl))
	if e != api.OK || hex.EncodeToString(x) != sealedControl {
		t.Errorf("%x, %v", x, e)
	}
	b, e := c.UnprotectControl(fromHex(sealedControl))
	if e != api.OK || hex.EncodeToString(b) != plainControl {
		t.Errorf("%x, %v", b, e)
	}
	if b, e := c.UnprotectControl(fromHex(sealedControl)); e != api.ErrOld || len(b) != 0 {
		t.Errorf("again: %x, %v", b, e)
	}
}

// reported is a control packet of source 5 protected under an index.
func reported(index int64, n int) []byte {
	return controlSealed(someKey(), report(5, n), index)
}

func TestProtectControlOfEveryKey(t *testing.T) {
	for _, key := range keys() {
		p := newPair(key)
		for n := range 70 {
			b := report(0xfedcba98, n)
			x := p.gives(t, protectControl, b, api.OK)
			if len(x) != len(b)+14 || !bytes.Equal(x[:8], b[:8]) || !bytes.Equal(x[len(b):len(b)+4], []byte{128, 0, 0, byte(n)}) {
				t.Fatalf("%x of %x", x, b)
			}
			if got := p.gives(t, unprotectControl, x, api.OK); !bytes.Equal(got, b) {
				t.Fatalf("%x, not %x", got, b)
			}
		}
	}
}

// Whatever the bytes ahead of the source are, they stay; each bit of the source has its own stream.
func TestControlOfEveryHead(t *testing.T) {
	for bit := range 64 {
		for _, flip := range []uint64{0, ^uint64(0)} {
			p := newPair(published)
			b := binary.BigEndian.AppendUint64(nil, 1<<bit^flip)
			x := p.gives(t, protectControl, append(b, value(20)...), api.OK)
			p.gives(t, unprotectControl, x, api.OK)
		}
	}
}

func TestProtectControlEveryLength(t *testing.T) {
	p := newPair(someKey())
	for n := range 8 {
		p.gives(t, protectControl, report(5, 0)[:n], api.ErrForm)
	}
	p.gives(t, protectControl, nil, api.ErrForm)
	for n := range 1520 {
		want := api.OK
		if n > 1478 {
			want = api.ErrLarge
		}
		p.gives(t, protectControl, report(5, n), want)
	}
	for _, n := range []int{2980, 65536, 1 << 20} {
		p.gives(t, protectControl, report(5, n), api.ErrLarge)
	}
}

// Each source has its own next index.
func TestProtectControlCounts(t *testing.T) {
	p := newPair(someKey())
	for i := range 400 {
		for source := range uint32(16) {
			if i%(int(source)+1) != 0 {
				continue
			}
			x := p.gives(t, protectControl, report(source, 4), api.OK)
			if got := binary.BigEndian.Uint32(x[12:]); got != 1<<31+uint32(i/(int(source)+1)) {
				t.Fatalf("%x at %d", got, i)
			}
		}
	}
}

func TestProtectControlToTheLastIndex(t *testing.T) {
	p := newPair(someKey())
	for _, index := range indexes() {
		if index < maxControl {
			p.have(5, index)
			p.gives(t, protectControl, report(5, 20), api.OK)
			p.gives(t, protectControl, report(6, 20), api.OK)
		}
	}
	p.have(5, maxControl-2)
	p.gives(t, protectControl, report(5, 4), api.OK)
	x := p.gives(t, protectControl, report(5, 4), api.OK)
	if binary.BigEndian.Uint32(x[12:]) != 0xffffffff {
		t.Errorf("%x", x)
	}
	for range 3 {
		p.gives(t, protectControl, report(5, 4), api.ErrOld)
		p.gives(t, protectControl, report(5, 1479), api.ErrLarge)
		p.gives(t, protectControl, report(5, 4)[:7], api.ErrForm)
		p.gives(t, protectControl, report(6, 4), api.OK)
	}
}

func TestControlTooManySources(t *testing.T) {
	p := newPair(someKey())
	for i := range uint32(16) {
		p.gives(t, protectControl, report(i<<28, 4), api.OK)
		p.gives(t, unprotectControl, controlSealed(someKey(), report(i<<28, 4), 1), api.OK)
	}
	for i := range uint32(16) {
		p.gives(t, protectControl, report(i<<28+1, 4), api.ErrFull)
		p.gives(t, protectControl, report(i<<28, 4), api.OK)
		p.gives(t, unprotectControl, controlSealed(someKey(), report(i<<28+1, 4), 1), api.ErrFull)
		p.gives(t, unprotectControl, controlSealed(someKey(), report(i<<28, 4), 1), api.ErrOld)
		p.gives(t, unprotectControl, controlSealed(someKey(), report(i<<28, 4), 2), api.OK)
	}
	p.gives(t, protectControl, report(9, 1479), api.ErrLarge)
	p.gives(t, protectControl, report(9, 0)[:7], api.ErrForm)
	x := controlSealed(someKey(), report(9, 4), 1)
	x[len(x)-1] ^= 1
	p.gives(t, unprotectControl, x, api.ErrFull)
	x[len(x)-14] ^= 128
	p.gives(t, unprotectControl, x, api.ErrForm)
}

// What is refused takes neither an index nor a source's place.
func TestProtectControlRefusedChangesNothing(t *testing.T) {
	p := newPair(someKey())
	for i := range uint32(40) {
		p.gives(t, protectControl, report(i, 1479), api.ErrLarge)
		p.gives(t, protectControl, report(i, 0)[:7], api.ErrForm)
	}
	for i := range uint32(16) {
		x := p.gives(t, protectControl, report(100+i, 4), api.OK)
		if binary.BigEndian.Uint32(x[12:]) != 1<<31 {
			t.Errorf("%x", x)
		}
	}
	p.gives(t, protectControl, report(5, 4), api.ErrFull)
}

func TestUnprotectControlEveryLength(t *testing.T) {
	p := newPair(someKey())
	for n := range 22 {
		p.gives(t, unprotectControl, reported(0, 20)[:n], api.ErrForm)
		p.gives(t, unprotectControl, bytes.Repeat([]byte{0xff}, n), api.ErrForm)
	}
	p.gives(t, unprotectControl, nil, api.ErrForm)
	for n := range 1520 {
		want := api.OK
		if n > 1478 {
			want = api.ErrForm
		}
		p.gives(t, unprotectControl, reported(int64(n), n), want)
	}
	p.gives(t, unprotectControl, append(make([]byte, 1<<20), reported(9, 9)...), api.ErrForm)
}

// Without the highest bit there's no form, whatever the tag is; a packet may be of no encryption in RFC 3711, not here.
func TestUnprotectControlWithoutTheHighestBit(t *testing.T) {
	p := newPair(someKey())
	for _, index := range []int64{0, 1, 0x1234, maxControl} {
		x := reported(index, 20)
		signed := x[:len(x)-10]
		signed[len(signed)-4] -= 128
		p.gives(t, unprotectControl, append(signed, mac(labelled(someKey(), 4, 20), signed)...), api.ErrForm)
		p.gives(t, unprotectControl, append(signed, make([]byte, 10)...), api.ErrForm)
		p.gives(t, unprotectControl, reported(index, 20), api.OK)
	}
	for first := range 256 {
		q := newPair(someKey())
		x := reported(0, 20)
		x[len(x)-14] = byte(first)
		want := api.ErrAuth
		if first < 128 {
			want = api.ErrForm
		} else if first == 128 {
			want = api.OK
		}
		q.gives(t, unprotectControl, x, want)
	}
}

func TestUnprotectControlEveryBitTurned(t *testing.T) {
	for _, n := range []int{0, 1, 20} {
		p := newPair(someKey())
		x := reported(0x1234567, n)
		for range 2 {
			for bit := range 8 * len(x) {
				y := bytes.Clone(x)
				y[bit/8] ^= 1 << (bit % 8)
				if _, e := p.do(t, unprotectControl, y); e == api.OK {
					t.Fatalf("bit %d of %x", bit, x)
				}
			}
			for cut := range x {
				p.do(t, unprotectControl, x[:cut])
			}
			for more := range 20 {
				p.do(t, unprotectControl, append(bytes.Clone(x), make([]byte, more+1)...))
				p.do(t, unprotectControl, append(bytes.Clone(x), bytes.Repeat([]byte{0xff}, more+1)...))
			}
			p.do(t, unprotectControl, x)
		}
		p.gives(t, unprotectControl, x, api.ErrOld)
	}
}

// A tag of another key or of another label's key, of less or of more.
func TestUnprotectControlOtherTags(t *testing.T) {
	p := newPair(someKey())
	for at := range 30 {
		key := someKey()
		key[at] ^= 0x10
		p.gives(t, unprotectControl, controlSealed(key, report(5, 20), 9), api.ErrAuth)
	}
	x := reported(9, 20)
	signed := x[:len(x)-10]
	own := labelled(someKey(), 4, 20)
	for _, tag := range [][]byte{make([]byte, 10), mac(own, signed[:len(signed)-4]), mac(own, signed, make([]byte, 4)), mac(own, signed[:8]), mac(own[:19], signed)} {
		p.gives(t, unprotectControl, append(bytes.Clone(signed), tag...), api.ErrAuth)
	}
	for label := range 6 {
		want := api.ErrAuth
		if label == 4 {
			want = api.OK
		}
		q := newPair(someKey())
		q.gives(t, unprotectControl, append(bytes.Clone(signed), mac(labelled(someKey(), label, 20), signed)...), want)
	}
}

// A media packet isn't one of control, and none of control is one of media, though they are of one key.
func TestControlIsntMedia(t *testing.T) {
	p := newPair(someKey())
	x := p.gives(t, protect, packet(5, 1, 30), api.OK)
	x[len(x)-14] |= 128
	p.gives(t, unprotectControl, x, api.ErrAuth)
	x = p.gives(t, protectControl, append([]byte{0x80, 96, 0, 1}, report(5, 30)[4:]...), api.OK)
	p.gives(t, unprotect, x, api.ErrAuth)
}

// Behind a greatest index each one about it; what stands there is the index, however far off.
func TestUnprotectControlTaken(t *testing.T) {
	for _, greatest := range indexes() {
		if greatest > maxControl {
			continue
		}
		p := newPair(someKey())
		p.have(5, greatest)
		for index := max(greatest-70, 0); index <= min(greatest+3, maxControl); index++ {
			want := api.OK
			if index <= greatest-64 || index == greatest {
				want = api.ErrOld
			}
			if index%3 != 0 {
				p.gives(t, unprotectControl, reported(index, 1), want)
			}
		}
		for index := max(greatest-70, 0); index <= min(greatest+3, maxControl); index++ {
			p.do(t, unprotectControl, reported(index, 1))
			p.gives(t, unprotectControl, reported(index, 1), api.ErrOld)
		}
	}
}

// Steps ahead of up to 2^31 - 1, and back.
func TestUnprotectControlSteps(t *testing.T) {
	for bit := range 31 {
		for _, d := range []int64{-1, 0, 1, 62, 63, 64} {
			step := int64(1)<<bit + d
			p := newPair(someKey())
			for _, index := range []int64{0, 100, 99, 90, 100 + step, 36, 37, 91, 100 + step - 63, 100 + step - 64, maxControl, 100 + step, maxControl - 63, maxControl - 64, 0} {
				if index >= 0 && index <= maxControl {
					p.do(t, unprotectControl, reported(index, 3))
				}
			}
			p.gives(t, unprotectControl, reported(maxControl, 3), api.ErrOld)
		}
	}
}

// The first index of a source may be any.
func TestUnprotectControlFirstOfASource(t *testing.T) {
	for _, first := range []int64{0, 1, 63, 64, 65, 65535, 65536, 1 << 30, maxControl} {
		for _, index := range []int64{0, 1, first - 65, first - 64, first - 63, first - 1, first, first + 1, first + 1<<20, maxControl} {
			if index < 0 || index > maxControl {
				continue
			}
			p := newPair(someKey())
			p.gives(t, unprotectControl, reported(first, 2), api.OK)
			want := api.OK
			if index <= first-64 || index == first {
				want = api.ErrOld
			}
			p.gives(t, unprotectControl, reported(index, 2), want)
		}
	}
}

func TestUnprotectControlOldWithAWrongTag(t *testing.T) {
	p := newPair(someKey())
	p.gives(t, unprotectControl, reported(100, 2), api.OK)
	for index := range int64(110) {
		x := reported(index, 2)
		x[len(x)-1] ^= 1
		want := api.ErrAuth
		if index <= 36 || index == 100 {
			want = api.ErrOld
		}
		p.gives(t, unprotectControl, x, want)
	}
}

// What isn't signed moves nothing, however far ahead it says it is, and takes no source's place.
func TestUnprotectControlRefusedChangesNothing(t *testing.T) {
	p := newPair(someKey())
	p.gives(t, unprotectControl, reported(100, 2), api.OK)
	for _, index := range []int64{101, 170, 1 << 20, maxControl, 90, 37} {
		x := reported(index, 2)
		x[9] ^= 1
		p.gives(t, unprotectControl, x, api.ErrAuth)
	}
	for _, index := range []int64{37, 90, 99, 101} {
		p.gives(t, unprotectControl, reported(index, 2), api.OK)
	}
	for i := range uint32(40) {
		x := controlSealed(someKey(), report(100+i, 2), 1)
		x[len(x)-10] ^= 1
		p.gives(t, unprotectControl, x, api.ErrAuth)
	}
	for i := range uint32(15) {
		p.gives(t, unprotectControl, controlSealed(someKey(), report(200+i, 2), 1), api.OK)
	}
	p.gives(t, unprotectControl, controlSealed(someKey(), report(300, 2), 1), api.ErrFull)
}
