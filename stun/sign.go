package stun

import (
	"bytes"
	"slices"

	"rostrum/api"
	"rostrum/put"
	"rostrum/sha1"
)

// The two attributes that signing adds, and the number that sets the CRC apart from other CRCs.
const (
	macSize = attrHead + 20
	crcSize = attrHead + 4
	crcMask = 0x5354554e
)

// Sign tells the bytes of m, signed by key.
func Sign(m Message, key []byte) ([]byte, api.Errno) {
	if !valid(m) || slices.ContainsFunc(m.Attrs, signs) {
		return nil, api.ErrArg
	}
	m.Attrs = slices.Concat(m.Attrs, []Attr{
		{Type: kindMAC, Value: make([]byte, macSize-attrHead)},
		{Type: kindCRC, Value: make([]byte, crcSize-attrHead)},
	})
	if !valid(m) {
		return nil, api.ErrArg
	}
	b := write(m)
	fillMAC(b[:len(b)-crcSize], key)
	fillCRC(b)
	return b, api.OK
}

// Check tells the message whose bytes, signed by key, are b.
func Check(b, key []byte) (Message, api.Errno) {
	m, e := Parse(b)
	if e != api.OK {
		return Message{}, e
	}
	own := m
	own.Attrs = m.Attrs[:max(len(m.Attrs)-2, 0)]
	// What is signed has one form alone, so that there's nothing to ask but whether b has it.
	signed, e := Sign(own, key)
	if e != api.OK || !bytes.Equal(signed, b) {
		return Message{}, api.ErrAuth
	}
	return m, api.OK
}

// signs tells whether a is of the Types that signing adds.
func signs(a Attr) bool {
	return a.Type == kindMAC || a.Type == kindCRC
}

// fillMAC writes into b, which ends with the attribute of the HMAC, its Value.
func fillMAC(b, key []byte) {
	setLength(b)
	mac := sha1.MAC(key, b[:len(b)-macSize])
	copy(b[len(b)-len(mac):], mac[:])
}

// fillCRC writes into b, which ends with the attribute of the CRC, its Value.
func fillCRC(b []byte) {
	setLength(b)
	sum := put.U32(nil, sha1.CRC(b[:len(b)-crcSize])^crcMask)
	copy(b[len(b)-len(sum):], sum)
}

// setLength has b's head tell the length of b alone, as if nothing came behind it.
func setLength(b []byte) {
	copy(b[lengthAt:], put.U16(nil, uint16(len(b)-headSize)))
}
