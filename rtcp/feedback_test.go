package rtcp

import (
	"slices"
	"testing"

	"rostrum/wire"
)

// Whoever goes through pieces or marks may leave them early, at each place, and begin again.
func TestIteratorsMayBeLeft(t *testing.T) {
	seqs := []uint16{5, 6, 22, 23, 40, 65}
	arrivals := []int{Lost, 1, 256, Lost, 1, 256, Lost, 1, 256, Lost, 1, 256, Lost, 1, 256}
	through, firsts := pieces(seqs), []uint16{5, 22, 40, 65}
	for n := range firsts {
		var got []uint16
		for first := range through {
			if got = append(got, first); len(got) > n {
				break
			}
		}
		left(t, got, firsts[:n+1])
	}
	laid := putSeqs(nil, seqs)
	for n := range seqs {
		var got []uint16
		for seq := range told(wire.NewReader(laid)) {
			if got = append(got, seq); len(got) > n {
				break
			}
		}
		left(t, got, seqs[:n+1])
	}
	all := marks(arrivals)
	for n := range 3 {
		var got []uint16
		for mark := range all {
			if got = append(got, mark); len(got) > n {
				break
			}
		}
		left(t, got, slices.Collect(all)[:n+1])
	}
	for n := range arrivals {
		var got []uint16
		for sort := range sorts(wire.NewReader([]byte{0xc6, 0x18, 0xd8, 0x61, 0xe0, 0}), len(arrivals)) {
			if got = append(got, sort); len(got) > n {
				break
			}
		}
		left(t, got, slices.Repeat([]uint16{sortLost, sortByte, sortLong}, 5)[:n+1])
	}
}

func left(t *testing.T, got, want []uint16) {
	t.Helper()
	if !slices.Equal(got, want) {
		t.Errorf("%v, not %v", got, want)
	}
}
