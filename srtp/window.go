package srtp

import "rostrum/wire"

// span is how many indexes up to the greatest one are told apart.
const span = 64

// window is what is kept of a source. Of a new one it is zero: any other has its greatest index taken.
type window struct {
	greatest int64
	taken    uint64 // the bit i is of the index that is i below the greatest one
}

func (w window) isNew() bool {
	return w.taken == 0
}

// index tells the index of a sequence number: the nearest one to the greatest.
func (w window) index(seq uint16) int64 {
	if w.isNew() {
		return int64(seq)
	}
	return w.greatest + int64(wire.Far16(uint16(w.greatest), seq))
}

// next tells the index behind the greatest one.
func (w window) next() int64 {
	if w.isNew() {
		return 0
	}
	return w.greatest + 1
}

// old tells whether an index was taken, or is so far behind that this isn't known any more.
func (w window) old(index int64) bool {
	behind := w.greatest - index
	return behind >= span || behind >= 0 && w.taken>>behind&1 == 1
}

// with tells the window that has taken the index, too.
func (w window) with(index int64) window {
	if index > w.greatest {
		w.taken <<= index - w.greatest
		w.greatest = index
	}
	// One that is beyond the span has no bit: it is shifted out.
	w.taken |= 1 << (w.greatest - index)
	return w
}
