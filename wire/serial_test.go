package wire_test

import (
	"testing"

	"rostrum/wire"
)

// P1.1, by the definition in whole numbers, at every distance from some beginnings.
func TestSerials16(t *testing.T) {
	for _, a := range []uint16{0, 1, 5, 32767, 32768, 32769, 65534, 65535} {
		for d := range 1 << 16 {
			b := uint16((int(a) + d) % (1 << 16))
			if got, want := wire.Before16(a, b), d >= 1 && d <= 1<<15-1; got != want {
				t.Fatalf("Before16(%d, %d): %v", a, b, got)
			}
			far := d
			if d >= 1<<15 {
				far = d - 1<<16
			}
			if got := wire.Far16(a, b); got != far {
				t.Fatalf("Far16(%d, %d): %d, want %d", a, b, got, far)
			}
		}
	}
}

func TestSerials32(t *testing.T) {
	for _, a := range []uint32{0, 7, 1<<31 - 1, 1 << 31, 1<<32 - 1} {
		for _, c := range []struct {
			d    uint32
			want bool
		}{{0, false}, {1, true}, {1 << 16, true}, {1<<31 - 1, true}, {1 << 31, false}, {1<<31 + 1, false}, {1<<32 - 1, false}} {
			if got := wire.Before32(a, a+c.d); got != c.want {
				t.Errorf("Before32(%d, %d): %v", a, a+c.d, got)
			}
		}
	}
}

func TestSerialExamples(t *testing.T) {
	if !wire.Before16(65535, 0) || wire.Before16(0, 32768) || wire.Before16(32768, 0) {
		t.Error("Before16")
	}
	if wire.Far16(0, 65535) != -1 || wire.Far16(0, 32768) != -32768 || wire.Far16(0, 32767) != 32767 {
		t.Error("Far16")
	}
}
