package srtp_test

import (
	"bytes"
	"testing"

	"rostrum/api"
	"rostrum/srtp"
)

func TestUnprotectPublished(t *testing.T) {
	c := srtp.New(published)
	b, e := c.Unprotect(fromHex(sealedMedia))
	if e != api.OK || !bytes.Equal(b, fromHex(plainMedia)) {
		t.Errorf("%x, %v", b, e)
	}
	if b, e := c.Unprotect(fromHex(sealedMedia)); e != api.ErrOld || len(b) != 0 {
		t.Errorf("again: %x, %v", b, e)
	}
}

// sealed is a packet of source 5 protected under an index, its sequence number that of the index.
func sealed(index int64, n int) []byte {
	return mediaSealed(someKey(), packet(5, uint16(index), n), index&maxIndex)
}

func TestUnprotectPacketsOfAllSorts(t *testing.T) {
	for _, key := range keys() {
		p := newPair(key)
		for i, b := range packets(0xfedcba98) {
			x := mediaSealed(key, b, int64(i))
			if got := p.gives(t, unprotect, x, api.OK); !bytes.Equal(got, b) {
				t.Fatalf("%x, not %x", got, b)
			}
			p.gives(t, unprotect, x, api.ErrOld)
		}
	}
}

func TestUnprotectEveryLength(t *testing.T) {
	p := newPair(someKey())
	for n := range 1479 {
		p.gives(t, unprotect, sealed(int64(n), n), api.OK)
	}
	for n := 1479; n < 1520; n++ {
		p.gives(t, unprotect, sealed(int64(n), n), api.ErrForm)
	}
	for _, n := range []int{65536, 1 << 20} {
		p.gives(t, unprotect, append(sealed(2000, 100), make([]byte, n)...), api.ErrForm)
	}
	p.gives(t, unprotect, sealed(1479, 1478), api.OK)
}

func TestUnprotectWhatHeadRefuses(t *testing.T) {
	p := newPair(someKey())
	for n := range 22 {
		p.gives(t, unprotect, sealed(1, 30)[:n], api.ErrForm)
		p.gives(t, unprotect, bytes.Repeat([]byte{0x80}, n), api.ErrForm)
	}
	for first := range 256 {
		b := append([]byte{byte(first)}, make([]byte, 121)...)
		want := api.ErrForm
		if first >= 128 && first < 192 {
			want = api.ErrAuth
		}
		p.gives(t, unprotect, b, want)
	}
	p.gives(t, unprotect, nil, api.ErrForm)
}

// The head may take all but the tag: where it takes bytes of that, too, it is refused.
func TestUnprotectHeads(t *testing.T) {
	for contribs := range 16 {
		for words := range 4 {
			head := 12 + 4*contribs + 4 + 4*words
			b := packet(5, 9, head-12)
			b[0] = 0x90 + byte(contribs)
			b[12+4*contribs+2], b[12+4*contribs+3] = 0, byte(words)
			p := newPair(someKey())
			x := mediaSealed(someKey(), b, 9)
			if !bytes.Equal(x[:head], b) {
				t.Fatal("the test's own head")
			}
			p.gives(t, unprotect, x, api.OK)
			for cut := 1; cut <= 11; cut++ {
				p.gives(t, unprotect, x[:len(x)-cut], api.ErrForm)
			}
		}
	}
}

// Each bit turned alone, each prefix, and bytes more.
func TestUnprotectEveryBitTurned(t *testing.T) {
	for _, b := range [][]byte{packet(5, 0x1234, 0), packet(5, 0x1234, 1), packet(5, 0x1234, 40), packets(5)[50], packets(5)[len(packets(5))-1]} {
		p := newPair(someKey())
		index := int64(b[2])<<8 | int64(b[3])
		x := mediaSealed(someKey(), b, index)
		for bit := range 8 * len(x) {
			y := bytes.Clone(x)
			y[bit/8] ^= 1 << (bit % 8)
			if _, e := p.do(t, unprotect, y); e != api.ErrAuth && e != api.ErrForm {
				t.Fatalf("bit %d of %x: %v", bit, x, e)
			}
		}
		for n := range x {
			p.do(t, unprotect, x[:n])
		}
		for n := range 20 {
			p.do(t, unprotect, append(bytes.Clone(x), make([]byte, n+1)...))
		}
		p.gives(t, unprotect, x, api.OK)
		for bit := range 8 * len(x) {
			y := bytes.Clone(x)
			y[bit/8] ^= 1 << (bit % 8)
			p.do(t, unprotect, y)
		}
	}
}

// Each byte of the tag, in each of its values.
func TestUnprotectEveryTag(t *testing.T) {
	p := newPair(someKey())
	x := sealed(77, 9)
	for at := len(x) - 10; at < len(x); at++ {
		for d := 1; d < 256; d++ {
			y := bytes.Clone(x)
			y[at] += byte(d)
			p.gives(t, unprotect, y, api.ErrAuth)
		}
	}
	for at := len(x) - 10; at < len(x)-1; at++ {
		for behind := at + 1; behind < len(x); behind++ {
			y := bytes.Clone(x)
			y[at] ^= 0x41
			y[behind] ^= 0x41
			p.gives(t, unprotect, y, api.ErrAuth)
			y[at], y[behind] = x[behind], x[at]
			if x[at] != x[behind] {
				p.gives(t, unprotect, y, api.ErrAuth)
			}
		}
	}
	p.gives(t, unprotect, x, api.OK)
}

// A tag of another key, of another label's key, of another index, or none.
func TestUnprotectOtherTags(t *testing.T) {
	p := newPair(someKey())
	b := packet(5, 9, 20)
	for at := range 30 {
		key := someKey()
		key[at] ^= 0x10
		p.gives(t, unprotect, mediaSealed(key, b, 9), api.ErrAuth)
	}
	for _, index := range []int64{9 + 65536, 9 + 2*65536, 9 + 1<<32} {
		p.gives(t, unprotect, mediaSealed(someKey(), b, index), api.ErrAuth)
	}
	x := media(someKey(), b, 9)
	roc := make([]byte, 4)
	for label := range 6 {
		want := api.ErrAuth
		if label == 1 {
			want = api.OK
		}
		q := newPair(someKey())
		q.gives(t, unprotect, append(bytes.Clone(x), mac(labelled(someKey(), label, 20), x, roc)...), want)
	}
	p.gives(t, unprotect, append(bytes.Clone(x), mac(labelled(someKey(), 1, 20), x)...), api.ErrAuth)
	p.gives(t, unprotect, append(bytes.Clone(x), mac(labelled(someKey(), 1, 20), x, roc[:2])...), api.ErrAuth)
	p.gives(t, unprotect, append(bytes.Clone(x), make([]byte, 10)...), api.ErrAuth)
}

// Behind a greatest index each one about it, each of the 64 up to it taken or not.
func TestUnprotectTaken(t *testing.T) {
	for _, greatest := range []int64{0, 1, 5, 62, 63, 64, 65, 66, 1000, 65530, 65536, 65570, 65600, 200000} {
		for _, every := range []int64{1, 2, 3, 64, 65} {
			p := newPair(someKey())
			p.have(5, greatest)
			for index := max(greatest-130, 0); index < greatest; index += every {
				want := api.OK
				if index <= greatest-64 {
					want = api.ErrOld
				}
				p.gives(t, unprotect, sealed(index, 1), want)
			}
			for index := max(greatest-130, 0); index <= greatest+2; index++ {
				p.do(t, unprotect, sealed(index, 1))
				p.gives(t, unprotect, sealed(index, 1), api.ErrOld)
			}
		}
	}
}

// Steps ahead of 1 to 130, and greater ones: what was taken stays known as far as 63 back.
func TestUnprotectSteps(t *testing.T) {
	steps := []int64{255, 256, 1000, 4095, 4096, 32703, 32704, 32766, 32767}
	for step := range int64(130) {
		steps = append(steps, step+1)
	}
	for _, step := range steps {
		p := newPair(someKey())
		for _, index := range []int64{500, 499, 497, 470, 440, 437} {
			p.gives(t, unprotect, sealed(index, 1), api.OK)
		}
		p.gives(t, unprotect, sealed(500+step, 1), api.OK)
		for index := int64(430); index <= 500+step; index++ {
			if 500+step-index > 32768 {
				p.gives(t, unprotect, sealed(index, 1), api.ErrAuth) // its sequence number is one ahead
			} else if index < 505 || index > 500+step-70 {
				p.do(t, unprotect, sealed(index, 1))
				p.gives(t, unprotect, sealed(index, 1), api.ErrOld)
			}
		}
	}
}

// The sequence number of a new source is its index, whichever it is; those that are below 0 then are old.
func TestUnprotectFirstOfASource(t *testing.T) {
	for _, first := range []int64{0, 1, 62, 63, 64, 65, 32767, 32768, 65535} {
		for _, seq := range seqs(uint16(first)) {
			p := newPair(someKey())
			p.gives(t, unprotect, sealed(first, 2), api.OK)
			p.gives(t, unprotect, sealed(first, 2), api.ErrOld)
			index := first + int64(int16(seq-uint16(first)))
			want := api.OK
			if index <= first-64 || index < 0 || index == first {
				want = api.ErrOld
			}
			p.gives(t, unprotect, sealed(index, 2), want)
		}
	}
	p := newPair(someKey())
	for _, index := range []int64{65536, 65537, 3*65536 + 9} {
		p.gives(t, unprotect, sealed(index, 2), api.ErrAuth)
	}
}

// All sequence numbers behind an index that has wrapped: each that isn't old is taken as the nearest one's.
func TestUnprotectEverySequenceNumber(t *testing.T) {
	p := newPair(someKey())
	for seq := range 65536 {
		const greatest = 3*65536 + 40000
		p.have(5, greatest)
		index := greatest + int64(int16(uint16(seq)-40000))
		want := api.OK
		if index <= greatest-64 || index == greatest {
			want = api.ErrOld
		}
		p.gives(t, unprotect, sealed(index, 1), want)
	}
}

func TestUnprotectAtTheLastIndexes(t *testing.T) {
	p := newPair(someKey())
	for _, greatest := range indexes() {
		for _, seq := range seqs(uint16(greatest)) {
			p.have(5, greatest)
			index := greatest + int64(int16(seq-uint16(greatest)))
			want := api.OK
			if index < 0 || index > maxIndex || index <= greatest-64 || index == greatest {
				want = api.ErrOld
			}
			p.gives(t, unprotect, sealed(index, 2), want)
			p.do(t, unprotect, sealed(greatest+1, 2))
			p.do(t, unprotect, sealed(greatest-1, 2))
		}
	}
	p.have(5, maxIndex)
	p.gives(t, unprotect, sealed(maxIndex+1, 3), api.ErrOld)
	p.gives(t, unprotect, sealed(maxIndex-63, 3), api.OK)
	p.gives(t, unprotect, sealed(maxIndex-64, 3), api.ErrOld)
	p.gives(t, unprotect, sealed(maxIndex, 3), api.ErrOld)
}

func TestUnprotectTooManySources(t *testing.T) {
	p := newPair(someKey())
	of := func(source uint32, seq uint16, n int) []byte {
		return mediaSealed(someKey(), packet(source, seq, n), int64(seq))
	}
	for i := range uint32(16) {
		p.gives(t, unprotect, of(i<<28, 1, 2), api.OK)
	}
	for i := range uint32(16) {
		p.gives(t, unprotect, of(i<<28, 1, 2), api.ErrOld)
		p.gives(t, unprotect, of(i<<28, 2, 2), api.OK)
		p.gives(t, unprotect, of(i<<28+1, 1, 2), api.ErrFull)
	}
	// No room is told ahead of a tag that isn't right, and behind what has no form.
	x := of(9, 1, 2)
	x[20] ^= 1
	p.gives(t, unprotect, x, api.ErrFull)
	p.gives(t, unprotect, of(9, 1, 1479), api.ErrForm)
	x[0] = 0
	p.gives(t, unprotect, x, api.ErrForm)
}

// What is old is told ahead of a tag that isn't right.
func TestUnprotectOldWithAWrongTag(t *testing.T) {
	p := newPair(someKey())
	p.gives(t, unprotect, sealed(100, 2), api.OK)
	for _, index := range []int64{100, 36, 0, -1, -5} {
		x := sealed(index, 2)
		x[len(x)-1] ^= 1
		p.gives(t, unprotect, x, api.ErrOld)
	}
	for _, index := range []int64{37, 99, 101} {
		x := sealed(index, 2)
		x[len(x)-1] ^= 1
		p.gives(t, unprotect, x, api.ErrAuth)
	}
}

// What isn't signed moves nothing, however far ahead it says it is, and takes no source's place.
func TestUnprotectRefusedChangesNothing(t *testing.T) {
	p := newPair(someKey())
	p.gives(t, unprotect, sealed(100, 2), api.OK)
	for _, index := range []int64{101, 170, 32000, 32867, 90, 37} {
		x := sealed(index, 2)
		x[13] ^= 1
		p.gives(t, unprotect, x, api.ErrAuth)
		x[13] ^= 1
		p.gives(t, unprotect, x[:21], api.ErrForm)
	}
	for _, index := range []int64{37, 90, 99, 101} {
		p.gives(t, unprotect, sealed(index, 2), api.OK)
	}
	for i := range uint32(40) {
		x := mediaSealed(someKey(), packet(100+i, 1, 2), 1)
		x[len(x)-10] ^= 1
		p.gives(t, unprotect, x, api.ErrAuth)
	}
	for i := range uint32(15) {
		p.gives(t, unprotect, mediaSealed(someKey(), packet(200+i, 1, 2), 1), api.OK)
	}
	p.gives(t, unprotect, mediaSealed(someKey(), packet(300, 1, 2), 1), api.ErrFull)
}
