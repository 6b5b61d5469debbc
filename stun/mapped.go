package stun

import (
	"rostrum/api"
	"rostrum/put"
	"rostrum/wire"
)

// An address's value, and what it begins with: a byte without meaning and the number of IPv4.
const (
	mappedSize = 8
	family     = 0x0001
)

// Mapped tells a's value.
func Mapped(a api.Addr) []byte {
	b := put.U16(nil, family)
	b = put.U16(b, a.Port^cookie>>16)
	return put.U32(b, a.IP^cookie)
}

// ReadMapped tells the address whose value is b.
func ReadMapped(b []byte) (api.Addr, api.Errno) {
	if len(b) != mappedSize {
		return api.Addr{}, api.ErrForm
	}
	r := wire.NewReader(b)
	if r.U16() != family {
		return api.Addr{}, api.ErrForm
	}
	port, ip := r.U16(), r.U32()
	return api.Addr{IP: ip ^ cookie, Port: port ^ cookie>>16}, api.OK
}
