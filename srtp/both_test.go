package srtp_test

import (
	"bytes"
	"math/rand"
	"testing"

	"rostrum/api"
	"rostrum/srtp"
)

// link is what protects, and what unprotects under the same key.
type link struct {
	from, to *srtp.Context
}

func newLink(key [30]byte) link {
	return link{srtp.New(key), srtp.New(key)}
}

// sent is a packet that was protected.
type sent struct {
	plain, sealed []byte
	control       bool
}

// send protects a packet.
func (l link) send(t *testing.T, plain []byte, control bool) sent {
	t.Helper()
	x, e := call(l.from, callOf(protect, control), plain)
	if e != api.OK {
		t.Fatalf("%x: %v", plain, e)
	}
	return sent{plain, x, control}
}

// callOf is the call for media, or the one for control that is like it.
func callOf(media int, control bool) int {
	if control {
		return media + protectControl
	}
	return media
}

// once asks whether the packet is unprotected, and a second time isn't.
func (l link) once(t *testing.T, x sent) {
	t.Helper()
	if b, e := call(l.to, callOf(unprotect, x.control), x.sealed); e != api.OK || !bytes.Equal(b, x.plain) {
		t.Fatalf("%x: %x, %v, not %x", x.sealed, b, e, x.plain)
	}
	l.never(t, x)
}

// never asks whether the packet isn't unprotected any more.
func (l link) never(t *testing.T, x sent) {
	t.Helper()
	if b, e := call(l.to, callOf(unprotect, x.control), x.sealed); e != api.ErrOld || len(b) != 0 {
		t.Fatalf("again: %x, %v", b, e)
	}
}

func TestPacketsInOrder(t *testing.T) {
	for _, key := range keys() {
		for _, first := range []uint16{0, 1, 40000, 65535} {
			l := newLink(key)
			for i := range 100 {
				l.once(t, l.send(t, packet(5, first+uint16(i), i), false))
				l.once(t, l.send(t, report(5, i), true))
			}
		}
	}
}

// Packets are lost, as many as 2^15 - 1 in a row, over several ends of the sequence numbers.
func TestPacketsLost(t *testing.T) {
	for _, step := range []int{2, 3, 63, 64, 65, 1000, 16384, 32766, 32767} {
		l := newLink(someKey())
		for i := range 100 {
			l.once(t, l.send(t, packet(5, uint16(65000+i*step), 4), false))
		}
	}
	l := newLink(someKey())
	for i := range 3000 {
		x := l.send(t, report(5, 4), true)
		if i%77 == 0 {
			l.once(t, x)
		}
	}
}

// Where one packet comes at last, the 63 behind it have come ahead of it, it is taken; where 64 have, it isn't.
func TestPacketsLate(t *testing.T) {
	for _, control := range []bool{false, true} {
		for _, first := range []uint16{1, 1000, 65470, 65535} {
			for late := range 70 {
				l := newLink(someKey())
				plain := func(i int) []byte {
					if control {
						return report(5, i%40)
					}
					return packet(5, first+uint16(i), i%40)
				}
				l.once(t, l.send(t, plain(0), control))
				x := l.send(t, plain(1), control)
				for i := range late {
					l.once(t, l.send(t, plain(2+i), control))
				}
				if late < 64 {
					l.once(t, x)
				}
				l.never(t, x)
			}
		}
	}
}

// Packets of 16 sources come in any order, each at most 63 behind the furthest, lost or twice.
func TestPacketsInAnyOrder(t *testing.T) {
	draw := rand.New(rand.NewSource(14))
	for _, control := range []bool{false, true} {
		l := newLink(someKey())
		seq := map[uint32]uint16{}
		for source := range uint32(16) {
			seq[source] = uint16(draw.Intn(65536))
			plain := packet(source, seq[source], 8)
			if control {
				plain = report(source, 8)
			}
			l.once(t, l.send(t, plain, control))
		}
		for range 600 {
			l.inAnyOrder(t, draw, seq, control)
		}
	}
}

// inAnyOrder sends 64 packets of a source, and has most of them come in a drawn order.
func (l link) inAnyOrder(t *testing.T, draw *rand.Rand, seq map[uint32]uint16, control bool) {
	source := uint32(draw.Intn(16))
	var row []sent
	for range 64 {
		seq[source]++
		plain := packet(source, seq[source], draw.Intn(50))
		if control {
			plain = report(source, draw.Intn(50))
		}
		row = append(row, l.send(t, plain, control))
	}
	draw.Shuffle(len(row), func(i, j int) { row[i], row[j] = row[j], row[i] })
	for i, x := range row[:len(row)-draw.Intn(3)] {
		l.once(t, x)
		l.never(t, row[draw.Intn(i+1)])
	}
}

// What a context protects it unprotects itself: the two are by themselves, and so are media and control.
func TestAContextByItself(t *testing.T) {
	c := srtp.New(someKey())
	l := link{c, c}
	for i := range 100 {
		for source := range uint32(16) {
			x, y := l.send(t, packet(source, 65500+uint16(i), 5), false), l.send(t, report(100+source, 5), true)
			l.once(t, x)
			l.once(t, y)
		}
	}
	p := newPair(someKey())
	for i := range uint32(20) {
		want := api.OK
		if i >= 16 {
			want = api.ErrFull
		}
		p.gives(t, protect, packet(i, 1, 5), want)
		p.gives(t, unprotect, mediaSealed(someKey(), packet(100+i, 1, 5), 1), want)
		p.gives(t, protectControl, report(200+i, 5), want)
		p.gives(t, unprotectControl, controlSealed(someKey(), report(300+i, 5), 1), want)
	}
	for i := range uint32(16) {
		p.gives(t, unprotect, mediaSealed(someKey(), packet(i, 1, 5), 1), api.ErrFull)
		p.gives(t, protect, packet(100+i, 1, 5), api.ErrFull)
		p.gives(t, unprotectControl, controlSealed(someKey(), report(200+i, 5), 1), api.ErrFull)
		p.gives(t, protectControl, report(300+i, 5), api.ErrFull)
	}
}

// walker hands a pair calls that are drawn: packets good and not, what it answered, edited and kept back.
type walker struct {
	pair
	draw *rand.Rand
	seq  uint16
	held [calls][][]byte
}

// plain is what may be protected: mostly it goes on from where the sequence numbers are.
func (w *walker) plain(control bool) []byte {
	source := uint32(w.draw.Intn(17))
	if control {
		return report(source, w.draw.Intn(40))
	}
	switch w.draw.Intn(8) {
	case 0:
		w.seq += uint16(w.draw.Intn(32768))
	case 1:
		return packet(source, w.seq-uint16(w.draw.Intn(200)), w.draw.Intn(40))
	case 2:
		return packet(source, uint16(w.draw.Intn(65536)), w.draw.Intn(40))
	default:
		w.seq += uint16(w.draw.Intn(4))
	}
	return packet(source, w.seq, w.draw.Intn(40))
}

// edited is b with a byte turned, cut off or laid behind, or as it is.
func (w *walker) edited(b []byte) []byte {
	b = bytes.Clone(b)
	switch w.draw.Intn(10) {
	case 0:
		b[w.draw.Intn(len(b))] ^= 1 << w.draw.Intn(8)
	case 1:
		b = b[:w.draw.Intn(len(b))]
	case 2:
		b = append(b, byte(w.draw.Intn(256)))
	}
	return b
}

// step is one call, and tells what it answered.
func (w *walker) step(t *testing.T) api.Errno {
	t.Helper()
	n, control := w.draw.Intn(calls), false
	if n == protectControl || n == unprotectControl {
		control = true
	}
	if n == protect || n == protectControl {
		x, e := w.do(t, n, w.edited(w.plain(control)))
		if e == api.OK {
			w.held[n+1] = append(w.held[n+1], x)
		}
		return e
	}
	if len(w.held[n]) == 0 {
		_, e := w.do(t, n, w.plain(control))
		return e
	}
	recent := min(len(w.held[n]), 1+w.draw.Intn(300))
	_, e := w.do(t, n, w.edited(w.held[n][len(w.held[n])-1-w.draw.Intn(recent)]))
	return e
}

// Long rows of calls, each held against the model.
func TestLongRowsOfCalls(t *testing.T) {
	var told [calls * 3]int
	for seed := range int64(20) {
		w := walker{pair: newPair(keys()[int(seed)%len(keys())]), draw: rand.New(rand.NewSource(seed))}
		for range 2000 {
			told[w.step(t)]++
		}
	}
	for _, e := range []api.Errno{api.OK, api.ErrForm, api.ErrAuth, api.ErrOld, api.ErrFull} {
		if told[e] < 100 {
			t.Errorf("%v only %d times", e, told[e])
		}
	}
}

// Any bytes, of any length, handed to all calls.
func TestAnyBytes(t *testing.T) {
	draw := rand.New(rand.NewSource(3))
	p := newPair(someKey())
	for i := range 20000 {
		b := make([]byte, draw.Intn(60))
		draw.Read(b)
		if len(b) > 0 && i%2 == 0 {
			b[0] = 0x80 | b[0]&0x13
		}
		for n := range calls {
			p.do(t, n, b)
		}
	}
}
