package srtp_test

import (
	"bytes"
	"encoding/binary"
	"testing"

	"rostrum/api"
	"rostrum/rtp"
	"rostrum/srtp"
)

// The four calls.
const (
	protect = iota
	unprotect
	protectControl
	unprotectControl
	calls
)

const maxIndex = 281474976710655 // 2^48 - 1

// call is the call of c that has the number.
func call(c *srtp.Context, which int, b []byte) ([]byte, api.Errno) {
	switch which {
	case protect:
		return c.Protect(b)
	case unprotect:
		return c.Unprotect(b)
	case protectControl:
		return c.ProtectControl(b)
	default:
		return c.UnprotectControl(b)
	}
}

// seen is what a model keeps of a source: all that it has taken, and the greatest of that.
type seen struct {
	greatest int64
	taken    map[int64]bool
}

// model is a context as the chapter tells it, that forgets nothing.
type model struct {
	key  [30]byte
	kept [calls]map[uint32]*seen
}

func newModel(key [30]byte) *model {
	m := &model{key: key}
	for i := range m.kept {
		m.kept[i] = map[uint32]*seen{}
	}
	return m
}

// full tells whether there's no room for a source.
func (m *model) full(which int, source uint32) bool {
	return m.kept[which][source] == nil && len(m.kept[which]) >= 16
}

// index is the index of a sequence number: of all that end with it the one from 2^15 below the greatest one to 2^15 - 1 above it.
func (m *model) index(which int, source uint32, seq uint16) int64 {
	s := m.kept[which][source]
	if s == nil {
		return int64(seq)
	}
	for x := s.greatest - s.greatest%65536 + int64(seq) - 65536; ; x += 65536 {
		if x >= s.greatest-32768 && x <= s.greatest+32767 {
			return x
		}
	}
}

// old tells whether an index of a source can't be taken any more.
func (m *model) old(which int, source uint32, index int64) bool {
	s := m.kept[which][source]
	return s != nil && (index <= s.greatest-64 || s.taken[index])
}

// take notes an index of a source.
func (m *model) take(which int, source uint32, index int64) {
	s := m.kept[which][source]
	if s == nil {
		s = &seen{greatest: index, taken: map[int64]bool{}}
		m.kept[which][source] = s
	}
	s.greatest = max(s.greatest, index)
	s.taken[index] = true
}

// call is what the chapter makes of the call that has the number.
func (m *model) call(which int, b []byte) ([]byte, api.Errno) {
	switch which {
	case protect:
		return m.protect(b)
	case unprotect:
		return m.unprotect(b)
	case protectControl:
		return m.protectControl(b)
	default:
		return m.unprotectControl(b)
	}
}

func (m *model) protect(b []byte) ([]byte, api.Errno) {
	if _, e := rtp.Head(b); e != api.OK {
		return nil, api.ErrForm
	}
	if len(b) > 1490 {
		return nil, api.ErrLarge
	}
	source := binary.BigEndian.Uint32(b[8:])
	if m.full(protect, source) {
		return nil, api.ErrFull
	}
	index := m.index(protect, source, binary.BigEndian.Uint16(b[2:]))
	if index < 0 || index > maxIndex {
		return nil, api.ErrOld
	}
	m.take(protect, source, index)
	return mediaSealed(m.key, b, index), api.OK
}

func (m *model) unprotect(b []byte) ([]byte, api.Errno) {
	if len(b) < 22 || len(b) > 1500 {
		return nil, api.ErrForm
	}
	body := b[:len(b)-10]
	if _, e := rtp.Head(body); e != api.OK {
		return nil, api.ErrForm
	}
	source := binary.BigEndian.Uint32(b[8:])
	if m.full(unprotect, source) {
		return nil, api.ErrFull
	}
	index := m.index(unprotect, source, binary.BigEndian.Uint16(b[2:]))
	if index < 0 || index > maxIndex || m.old(unprotect, source, index) {
		return nil, api.ErrOld
	}
	plain := media(m.key, body, index)
	if !bytes.Equal(mediaSealed(m.key, plain, index), b) {
		return nil, api.ErrAuth
	}
	m.take(unprotect, source, index)
	return plain, api.OK
}

func (m *model) protectControl(b []byte) ([]byte, api.Errno) {
	if len(b) < 8 {
		return nil, api.ErrForm
	}
	if len(b) > 1486 {
		return nil, api.ErrLarge
	}
	source := binary.BigEndian.Uint32(b[4:])
	if m.full(protectControl, source) {
		return nil, api.ErrFull
	}
	index := int64(0)
	if s := m.kept[protectControl][source]; s != nil {
		index = s.greatest + 1
	}
	if index == 2147483648 {
		return nil, api.ErrOld
	}
	m.take(protectControl, source, index)
	return controlSealed(m.key, b, index), api.OK
}

func (m *model) unprotectControl(b []byte) ([]byte, api.Errno) {
	if len(b) < 22 || len(b) > 1500 || b[len(b)-14] < 128 {
		return nil, api.ErrForm
	}
	source := binary.BigEndian.Uint32(b[4:])
	if m.full(unprotectControl, source) {
		return nil, api.ErrFull
	}
	index := int64(binary.BigEndian.Uint32(b[len(b)-14:])) - 2147483648
	if m.old(unprotectControl, source, index) {
		return nil, api.ErrOld
	}
	plain := control(m.key, b[:len(b)-14], index)
	if !bytes.Equal(controlSealed(m.key, plain, index), b) {
		return nil, api.ErrAuth
	}
	m.take(unprotectControl, source, index)
	return plain, api.OK
}

// pair is a context and its model, which are handed the same.
type pair struct {
	*srtp.Context
	*model
}

func newPair(key [30]byte) pair {
	return pair{srtp.New(key), newModel(key)}
}

// have has both keep that of a source's media and control the index alone was taken.
func (p pair) have(source uint32, index int64) {
	p.LayMedia(source, index)
	p.LayControl(source, index)
	for _, kept := range p.kept {
		kept[source] = &seen{index, map[int64]bool{index: true}}
	}
}

// do hands b to both, asks whether they answer the same, and tells that.
func (p pair) do(t *testing.T, which int, b []byte) ([]byte, api.Errno) {
	t.Helper()
	was := bytes.Clone(b)
	got, e := call(p.Context, which, b)
	want, wanted := p.model.call(which, was)
	if e != wanted || !bytes.Equal(got, want) {
		t.Fatalf("%s of %x: %x, %v, not %x, %v", names()[which], b, got, e, want, wanted)
	}
	return got, e
}

// gives is do of what the test itself knows the error of.
func (p pair) gives(t *testing.T, which int, b []byte, want api.Errno) []byte {
	t.Helper()
	got, e := p.do(t, which, b)
	if e != want {
		t.Fatalf("%s of %d bytes %x: %v, not %v", names()[which], len(b), b[:min(len(b), 100)], e, want)
	}
	return got
}

func names() []string {
	return []string{"Protect", "Unprotect", "ProtectControl", "UnprotectControl"}
}

// keys are keys of several sorts.
func keys() [][30]byte {
	all := [][30]byte{{}, published}
	for _, x := range []byte{1, 0x55, 0xff} {
		var same, rising [30]byte
		for i := range same {
			same[i] = x
			rising[i] = x + byte(i)*7
		}
		all = append(all, same, rising)
	}
	return all
}

// someKey is the key of most tests.
func someKey() [30]byte { return keys()[3] }

// value is n bytes that differ by n.
func value(n int) []byte {
	b := make([]byte, n)
	for i := range b {
		b[i] = byte(i*7 + n)
	}
	return b
}

// packet is a media packet with a payload of n bytes.
func packet(source uint32, seq uint16, n int) []byte {
	b := []byte{0x80, 96}
	b = binary.BigEndian.AppendUint16(b, seq)
	b = binary.BigEndian.AppendUint32(b, 0x01020304)
	b = binary.BigEndian.AppendUint32(b, source)
	return append(b, value(n)...)
}

// report is a control packet with n bytes behind its head.
func report(source uint32, n int) []byte {
	b := []byte{0x81, 200, 0, byte(n / 4)}
	b = binary.BigEndian.AppendUint32(b, source)
	return append(b, value(n)...)
}

// packets are media packets of all sorts, of one source, with sequence numbers from 0 on.
func packets(source uint32) [][]byte {
	var list [][]byte
	for _, contribs := range []int{0, 1, 15} {
		for _, sizes := range [][]int{nil, {1}, {16, 16}, {1, 2, 3, 4}} {
			for _, n := range []int{0, 1, 15, 16, 17, 100} {
				for _, pad := range []int{0, 1, 7} {
					p := rtp.Packet{Marker: n == 1, Type: n, Seq: uint16(len(list)), Time: 0xfedcba98, Source: source, Contribs: make([]uint32, contribs), Payload: value(n), Pad: pad}
					for i, size := range sizes {
						p.Exts = append(p.Exts, rtp.Ext{ID: i + 1, Data: value(size)})
					}
					b, _ := rtp.Build(p)
					list = append(list, b)
				}
			}
		}
	}
	return list
}
