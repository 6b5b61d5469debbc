package rtcp

import (
	"iter"
	"slices"

	"rostrum/wire"
)

// How pieces tell Seqs, and marks the sorts of Arrivals.
const (
	pieceSize = 4
	pieceBits = 16

	markSize  = 2
	markFlags = 0xc000
	perMark   = 7
	sortBits  = 2
	firstSort = sortBits * (perMark - 1) // where the first Arrival's sort stands in a mark
	sortMask  = 1<<sortBits - 1
)

// The sorts of Arrivals: how many bytes an Arrival's distance has.
const (
	sortLost = iota
	sortByte
	sortLong

	mostByte = 1<<8 - 1
)

// pieces goes through the pieces that tell the seqs, which are good: the first Seq of each, and the bits for those that follow.
func pieces(seqs []uint16) iter.Seq2[uint16, uint16] {
	return func(yield func(uint16, uint16) bool) {
		for rest := seqs; len(rest) > 0; {
			first, bits := rest[0], uint16(0)
			rest = rest[1:]
			for len(rest) > 0 && rest[0]-first <= pieceBits {
				bits |= 1 << (rest[0] - first - 1)
				rest = rest[1:]
			}
			if !yield(first, bits) {
				return
			}
		}
	}
}

// told goes through the Seqs that the pieces in r tell.
func told(r *wire.Reader) iter.Seq[uint16] {
	return func(yield func(uint16) bool) {
		for r.Left() >= pieceSize {
			seq, bits := r.U16(), r.U16()
			if !yield(seq) {
				return
			}
			for ; bits != 0; bits >>= 1 {
				seq++
				if bits&1 != 0 && !yield(seq) {
					return
				}
			}
		}
	}
}

// marks goes through the marks that tell the sorts of the arrivals.
func marks(arrivals []int) iter.Seq[uint16] {
	return func(yield func(uint16) bool) {
		for few := range slices.Chunk(arrivals, perMark) {
			mark := uint16(markFlags)
			for i, a := range few {
				mark |= sortOf(a) << (firstSort - sortBits*i)
			}
			if !yield(mark) {
				return
			}
		}
	}
}

// sorts goes through the sorts of so many Arrivals as the marks in r tell them.
func sorts(r *wire.Reader, arrivals int) iter.Seq[uint16] {
	return func(yield func(uint16) bool) {
		mark := uint16(0)
		for i := range arrivals {
			if i%perMark == 0 {
				mark = r.U16()
			}
			if !yield(mark >> (firstSort - sortBits*(i%perMark)) & sortMask) {
				return
			}
		}
	}
}

// sortOf tells the sort of an Arrival that is good.
func sortOf(arrival int) uint16 {
	switch {
	case arrival == Lost:
		return sortLost
	case within(arrival, 0, mostByte):
		return sortByte
	}
	return sortLong
}
