package stun

import (
	"rostrum/api"
	"rostrum/put"
	"rostrum/wire"
)

// How a message's bytes are laid out.
const (
	headSize = 20
	attrHead = 4
	lengthAt = 2
	cookie   = 0x2112a442
)

// Build tells m's bytes.
func Build(m Message) ([]byte, api.Errno) {
	if !valid(m) {
		return nil, api.ErrArg
	}
	return write(m), api.OK
}

// Parse tells the message whose bytes are b.
func Parse(b []byte) (Message, api.Errno) {
	// More is not even copied into a reader: whoever sends it shall not cost us its length.
	if len(b) > api.MostBytes {
		return Message{}, api.ErrForm
	}
	r := wire.NewReader(b)
	m, ok := readHead(r)
	for ok && r.Left() > 0 {
		var a Attr
		a, ok = readAttr(r)
		m.Attrs = append(m.Attrs, a)
	}
	if !ok || !valid(m) {
		return Message{}, api.ErrForm
	}
	return m, api.OK
}

// write lays out m, which is valid.
func write(m Message) []byte {
	b := make([]byte, 0, size(m))
	b = put.U16(b, headKind(m.Class, m.Method))
	b = put.U16(b, uint16(size(m)-headSize))
	b = put.U32(b, cookie)
	b = append(b, m.ID[:]...)
	for _, a := range m.Attrs {
		b = put.U16(b, a.Type)
		b = put.U16(b, uint16(len(a.Value)))
		b = append(b, a.Value...)
		b = append(b, make([]byte, padding(len(a.Value)))...)
	}
	return b
}

// readHead reads the first 20 bytes, and asks whether their length is that of what is left.
func readHead(r *wire.Reader) (Message, bool) {
	var m Message
	kind, length, magic := r.U16(), r.U16(), r.U32()
	copy(m.ID[:], r.Take(len(m.ID)))
	if r.Bad() || kind > headKind(mostClass, mostMethod) || magic != cookie {
		return m, false
	}
	m.Class, m.Method = classOf(kind), methodOf(kind)
	return m, int(length) == r.Left()
}

// readAttr reads an attribute and the noughts behind it.
func readAttr(r *wire.Reader) (Attr, bool) {
	a := Attr{Type: r.U16()}
	n := int(r.U16())
	a.Value = r.Take(n)
	for _, v := range r.Take(padding(n)) {
		if v != 0 {
			return a, false
		}
	}
	return a, !r.Bad()
}

// headKind lays the two bits of class between those of method.
func headKind(class, method int) uint16 {
	low := method&0xf | class&1<<4 | method&0x70<<1
	high := class&2<<7 | method&0xf80<<2
	return uint16(high | low)
}

// classOf takes the class out of a headKind.
func classOf(kind uint16) int {
	return int(kind>>4&1 | kind>>7&2)
}

// methodOf takes the method out of a headKind.
func methodOf(kind uint16) int {
	return int(kind&0xf | kind>>1&0x70 | kind>>2&0xf80)
}
