package rtp

import (
	"rostrum/api"
	"rostrum/wire"
)

// Head tells how many bytes stand ahead of the Payload, whatever they say but for how many they are.
func Head(b []byte) (int, api.Errno) {
	if len(b) < fixedSize || b[0]>>6 != version {
		return 0, api.ErrForm
	}
	n := fixedSize + wordSize*int(b[0]&contribBits)
	if b[0]&extsFlag != 0 {
		n += extsHead
		if n > len(b) {
			return 0, api.ErrForm
		}
		n += wordSize * (int(b[n-2])<<8 | int(b[n-1]))
	}
	if n > len(b) {
		return 0, api.ErrForm
	}
	return n, api.OK
}

// Parse tells the packet whose bytes are b.
func Parse(b []byte) (Packet, api.Errno) {
	// More is not even copied into a reader: whoever sends it shall not cost us its length.
	if len(b) > api.MostBytes {
		return Packet{}, api.ErrForm
	}
	if _, e := Head(b); e != api.OK {
		return Packet{}, e
	}
	r := wire.NewReader(b)
	flags := r.U8()
	p := readNumbers(r, int(flags&contribBits))
	ok := true
	if flags&extsFlag != 0 {
		p.Exts, ok = readExts(r)
	}
	if ok {
		p.Payload, p.Pad, ok = readRest(r, flags&padFlag != 0)
	}
	if !ok {
		return Packet{}, api.ErrForm
	}
	return p, api.OK
}

// readNumbers reads what stands from the second byte to the last Contrib.
func readNumbers(r *wire.Reader, contribs int) Packet {
	second := r.U8()
	p := Packet{
		Marker: second&markerFlag != 0,
		Type:   int(second & typeBits),
		Seq:    r.U16(),
		Time:   r.U32(),
		Source: r.U32(),
	}
	for range contribs {
		p.Contribs = append(p.Contribs, r.U32())
	}
	return p
}

// readExts reads the words in which the Exts stand: at least one of them, and no more noughts behind them than fill the last word.
func readExts(r *wire.Reader) ([]Ext, bool) {
	mark := r.U16()
	size := wordSize * int(r.U16())
	words := wire.NewReader(r.Take(size))
	var exts []Ext
elements:
	for words.Left() > 0 {
		first := words.U8()
		id, length := int(first>>4), int(first&(mostData-1))+1
		switch {
		case first == 0:
			break elements
		case id < 1 || id > mostID || length > words.Left() || len(exts) == api.MostExts:
			return nil, false
		}
		exts = append(exts, Ext{ID: id, Data: words.Take(length)})
	}
	behind := words.Take(words.Left())
	return exts, mark == extsMark && extsSize(exts) == extsHead+size && noughts(behind)
}

// readRest reads the Payload and the bytes of Pad, if there are some.
func readRest(r *wire.Reader, padded bool) ([]byte, int, bool) {
	rest := r.Take(r.Left())
	if !padded {
		return rest, 0, true
	}
	last := len(rest) - 1
	if last < 0 {
		return nil, 0, false
	}
	pad := int(rest[last])
	if pad == 0 || pad > len(rest) {
		return nil, 0, false
	}
	begin := len(rest) - pad
	return rest[:begin], pad, noughts(rest[begin:last])
}

// noughts tells whether all of b is noughts.
func noughts(b []byte) bool {
	for _, v := range b {
		if v != 0 {
			return false
		}
	}
	return true
}
