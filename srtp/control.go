package srtp

import (
	"rostrum/api"
	"rostrum/put"
	"rostrum/wire"
)

const (
	controlHead = 8
	indexSize   = 4
	encrypted   = 1 << 31 // stands in the index's 4 bytes with it
)

// ProtectControl tells the control packet b, protected under its source's next index.
func (c *Context) ProtectControl(b []byte) ([]byte, api.Errno) {
	if c == nil {
		return nil, api.ErrArg
	}
	if len(b) < controlHead {
		return nil, api.ErrForm
	}
	if len(b) > api.MostBytes-indexSize-tagSize {
		return nil, api.ErrLarge
	}
	source := controlSource(b)
	w, ok := look(c.control.protected, source)
	if !ok {
		return nil, api.ErrFull
	}
	index := w.next()
	if index >= encrypted {
		return nil, api.ErrOld
	}
	c.control.protected.Put(source, w.with(index))
	out := c.control.keys.crypted(b, controlHead, source, index)
	out = put.U32(out, encrypted|uint32(index))
	tag := c.control.keys.tagOf(out)
	return append(out, tag[:]...), api.OK
}

// UnprotectControl tells the control packet that was protected as b, if its index wasn't taken yet.
func (c *Context) UnprotectControl(b []byte) ([]byte, api.Errno) {
	if c == nil {
		return nil, api.ErrArg
	}
	if len(b) < controlHead+indexSize+tagSize || len(b) > api.MostBytes {
		return nil, api.ErrForm
	}
	end := len(b) - tagSize
	signed, tag := b[:end], [tagSize]byte(b[end:])
	body, word := signed[:end-indexSize], wire.NewReader(signed[end-indexSize:]).U32()
	if word < encrypted {
		return nil, api.ErrForm
	}
	source, index := controlSource(body), int64(word-encrypted)
	w, ok := look(c.control.unprotected, source)
	if !ok {
		return nil, api.ErrFull
	}
	if w.old(index) {
		return nil, api.ErrOld
	}
	if !equal(tag, c.control.keys.tagOf(signed)) {
		return nil, api.ErrAuth
	}
	c.control.unprotected.Put(source, w.with(index))
	return c.control.keys.crypted(body, controlHead, source, index), api.OK
}

// controlSource tells the source of a control packet.
func controlSource(b []byte) uint32 {
	return wire.NewReader(b[4:8]).U32()
}
