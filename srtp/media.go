package srtp

import (
	"slices"

	"rostrum/api"
	"rostrum/put"
	"rostrum/rtp"
	"rostrum/wire"
)

const (
	mostIndex  = 1<<48 - 1
	leastMedia = 12
)

// Protect tells the media packet b, protected under the index of its sequence number.
func (c *Context) Protect(b []byte) ([]byte, api.Errno) {
	if c == nil {
		return nil, api.ErrArg
	}
	head, e := rtp.Head(b)
	if e != api.OK {
		return nil, api.ErrForm
	}
	if len(b) > api.MostBytes-tagSize {
		return nil, api.ErrLarge
	}
	source, seq := origin(b)
	w, ok := look(c.media.protected, source)
	if !ok {
		return nil, api.ErrFull
	}
	index := w.index(seq)
	if index < 0 || index > mostIndex {
		return nil, api.ErrOld
	}
	c.media.protected.Put(source, w.with(index))
	out := c.media.keys.crypted(b, head, source, index)
	tag := c.media.keys.mediaTag(out, index)
	return append(out, tag[:]...), api.OK
}

// Unprotect tells the media packet that was protected as b, if its index wasn't taken yet.
func (c *Context) Unprotect(b []byte) ([]byte, api.Errno) {
	if c == nil {
		return nil, api.ErrArg
	}
	if len(b) < leastMedia+tagSize || len(b) > api.MostBytes {
		return nil, api.ErrForm
	}
	end := len(b) - tagSize
	body, tag := b[:end], [tagSize]byte(b[end:])
	head, e := rtp.Head(body)
	if e != api.OK {
		return nil, api.ErrForm
	}
	source, seq := origin(body)
	w, ok := look(c.media.unprotected, source)
	if !ok {
		return nil, api.ErrFull
	}
	index := w.index(seq)
	if index < 0 || index > mostIndex || w.old(index) {
		return nil, api.ErrOld
	}
	if !equal(tag, c.media.keys.mediaTag(body, index)) {
		return nil, api.ErrAuth
	}
	c.media.unprotected.Put(source, w.with(index))
	return c.media.keys.crypted(body, head, source, index), api.OK
}

// origin tells the source and the sequence number of a media packet.
func origin(b []byte) (uint32, uint16) {
	return wire.NewReader(b[8:12]).U32(), wire.NewReader(b[2:4]).U16()
}

// mediaTag tells the tag of a media packet that is encrypted: it's of what the sequence number doesn't tell of the index, too.
func (k keys) mediaTag(b []byte, index int64) [tagSize]byte {
	return k.tagOf(slices.Concat(b, put.U32(nil, uint32(index>>16))))
}
