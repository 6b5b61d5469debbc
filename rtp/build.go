package rtp

import (
	"rostrum/api"
	"rostrum/put"
)

// How a packet's bytes are laid out.
const (
	fixedSize = 12
	wordSize  = 4
	extsHead  = 4
	extsMark  = 0xbede

	version = 2 // the first byte's two highest bits

	padFlag     = 0x20
	extsFlag    = 0x10
	contribBits = 0x0f

	markerFlag = 0x80
	typeBits   = 0x7f
)

// Build tells p's bytes.
func Build(p Packet) ([]byte, api.Errno) {
	if !good(p) {
		return nil, api.ErrArg
	}
	b := make([]byte, 0, size(p))
	b = append(b, firstByte(p), secondByte(p))
	b = put.U16(b, p.Seq)
	b = put.U32(b, p.Time)
	b = put.U32(b, p.Source)
	for _, c := range p.Contribs {
		b = put.U32(b, c)
	}
	b = putExts(b, p.Exts)
	b = append(b, p.Payload...)
	return putPad(b, p.Pad), api.OK
}

func firstByte(p Packet) byte {
	v := version<<6 | byte(len(p.Contribs))
	if p.Pad != 0 {
		v |= padFlag
	}
	if len(p.Exts) > 0 {
		v |= extsFlag
	}
	return v
}

func secondByte(p Packet) byte {
	v := byte(p.Type)
	if p.Marker {
		v |= markerFlag
	}
	return v
}

func putExts(b []byte, exts []Ext) []byte {
	if len(exts) == 0 {
		return b
	}
	end := len(b) + extsSize(exts)
	b = put.U16(b, extsMark)
	b = put.U16(b, uint16((extsSize(exts)-extsHead)/wordSize))
	for _, x := range exts {
		b = append(b, byte(x.ID<<4|(len(x.Data)-1)))
		b = append(b, x.Data...)
	}
	return append(b, make([]byte, end-len(b))...)
}

func putPad(b []byte, pad int) []byte {
	if pad == 0 {
		return b
	}
	b = append(b, make([]byte, pad-1)...)
	return append(b, byte(pad))
}
