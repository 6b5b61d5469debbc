package ice_test

import (
	"bytes"
	"crypto/hmac"
	"crypto/sha1"
	"encoding/binary"
	"hash/crc32"
	"slices"
	"testing"

	"rostrum/api"
	"rostrum/ice"
	"rostrum/stun"
)

// The agent and the peers of most tests here.
const (
	name     = "ab"
	password = "the password"
)

var (
	alice = api.Addr{IP: 0xc0000201, Port: 32853}
	bob   = api.Addr{IP: 0xc0000201, Port: 32854}
	carol = api.Addr{IP: 0xc0000202, Port: 32853}
	dave  = api.Addr{}
	erin  = api.Addr{IP: 0xffffffff, Port: 65535}

	id = [12]byte{0xb7, 0xe7, 0xa7, 0x01, 0xbc, 0x34, 0xd6, 0x86, 0xfa, 0x87, 0xdf, 0xae}
)

// The attributes of a check that is as it should be.
var (
	user     = stun.Attr{Type: 6, Value: []byte("ab:peer")}
	priority = stun.Attr{Type: 36, Value: []byte{0x6e, 0, 1, 0xff}}
	use      = stun.Attr{Type: 37}
	unknown  = stun.Attr{Type: 99, Value: []byte("?")}
	role     = stun.Attr{Type: 32809, Value: []byte("12345678")}
)

// named is an attribute of Type 6.
func named(text string) stun.Attr {
	return stun.Attr{Type: 6, Value: []byte(text)}
}

// laid is the bytes of a message of the Method 1; kind is its first two bytes.
func laid(kind uint16, list ...stun.Attr) []byte {
	b := binary.BigEndian.AppendUint16(nil, kind)
	b = append(append(b, 0, 0, 0x21, 0x12, 0xa4, 0x42), id[:]...)
	for _, a := range list {
		b = binary.BigEndian.AppendUint16(b, a.Type)
		b = binary.BigEndian.AppendUint16(b, uint16(len(a.Value)))
		b = append(b, a.Value...)
		for len(b)%4 != 0 {
			b = append(b, 0)
		}
	}
	binary.BigEndian.PutUint16(b[2:], uint16(len(b)-20))
	return b
}

// sealed is b with the HMAC by key and the CRC behind it, made by the library.
func sealed(b []byte, key string) []byte {
	b = bytes.Clone(b)
	binary.BigEndian.PutUint16(b[2:], uint16(len(b)+24-20))
	h := hmac.New(sha1.New, []byte(key))
	h.Write(b)
	b = append(append(b, 0, 8, 0, 20), h.Sum(nil)...)
	binary.BigEndian.PutUint16(b[2:], uint16(len(b)+8-20))
	sum := crc32.ChecksumIEEE(b) ^ 0x5354554e
	return binary.BigEndian.AppendUint32(append(b, 0x80, 0x28, 0, 4), sum)
}

// request is a check of these attributes, signed by the password.
func request(list ...stun.Attr) []byte {
	return sealed(laid(0x0001, list...), password)
}

// good is a check that is as it should be, with more attributes.
func good(more ...stun.Attr) []byte {
	return request(slices.Concat([]stun.Attr{user, priority}, more)...)
}

// refusal is the reply of a code, not signed.
func refusal(code int) []byte {
	return laid(0x0111, stun.Attr{Type: 9, Value: []byte{0, 0, byte(code / 100), byte(code % 100)}})
}

// signedRefusal is the reply of a code, signed by the password.
func signedRefusal(code int) []byte {
	return sealed(refusal(code), password)
}

// success is the reply to a check from from, signed by key.
func success(from api.Addr, key string) []byte {
	v := binary.BigEndian.AppendUint16([]byte{0, 1}, from.Port^0x2112)
	v = binary.BigEndian.AppendUint32(v, from.IP^0x2112a442)
	return sealed(laid(0x0101, stun.Attr{Type: 32, Value: v}), key)
}

// agent is an agent that has had good checks from these, all at 0.
func agent(t *testing.T, from ...api.Addr) *ice.Agent {
	t.Helper()
	a := ice.New(name, password)
	for _, x := range from {
		accepts(t, a, good(), x, 0)
	}
	return a
}

// accepts asks whether b is a check that a takes, with the reply that tells from.
func accepts(t *testing.T, a *ice.Agent, b []byte, from api.Addr, now int64) {
	t.Helper()
	got, e := a.Handle(b, from, now)
	if e != api.OK || !bytes.Equal(got, success(from, password)) {
		t.Errorf("%x from %v: %v %x", b, from, e, got)
	}
}

// refuses asks whether a answers b with the error want and reply, and keeps its pairs as they are.
func refuses(t *testing.T, what string, a *ice.Agent, b []byte, from api.Addr, want api.Errno, reply []byte) {
	t.Helper()
	was := a.Pairs()
	selected, ok := a.Selected()
	got, e := a.Handle(b, from, 0)
	if e != want || !bytes.Equal(got, reply) {
		t.Errorf("%s: %v %x, not %v %x", what, e, got, want, reply)
	}
	holds(t, what, a, was...)
	if x, is := a.Selected(); x != selected || is != ok {
		t.Errorf("%s: selected %v %v, not %v %v", what, x, is, selected, ok)
	}
}

// holds asks whether a has these pairs, and has the one of them nominated that is.
func holds(t *testing.T, what string, a *ice.Agent, want ...ice.Pair) {
	t.Helper()
	if got := a.Pairs(); !slices.Equal(got, want) {
		t.Errorf("%s: %v, not %v", what, got, want)
	}
	var selected api.Addr
	at := slices.IndexFunc(want, func(p ice.Pair) bool { return p.Nominated })
	if at >= 0 {
		selected = want[at].Addr
	}
	if x, ok := a.Selected(); x != selected || ok != (at >= 0) {
		t.Errorf("%s: selected %v %v, not %v %v", what, x, ok, selected, at >= 0)
	}
}

// roomy is b with spare room behind it that is not noughts.
func roomy(b []byte) []byte {
	all := bytes.Repeat([]byte{0xa5}, len(b)+100)
	copy(all, b)
	return all[:len(b)]
}

// untouched tells whether b, from roomy, and its spare room are as they were.
func untouched(b, was []byte) bool {
	return bytes.Equal(b, was) && bytes.Count(b[len(b):cap(b)], []byte{0xa5}) == 100
}

// spoil writes over all of b, its spare room too.
func spoil(b []byte) {
	b = b[:cap(b)]
	for i := range b {
		b[i] = ^b[i]
	}
}
