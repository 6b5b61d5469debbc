package ice_test

import (
	"testing"

	"rostrum/ice"
)

// kindOf is what First answers of a first byte with no second one, or with one that names no control.
func kindOf(first int) int {
	for _, c := range []struct{ from, to, kind int }{{0, 3, 1}, {20, 63, 2}, {128, 191, 3}} {
		if c.from <= first && first <= c.to {
			return c.kind
		}
	}
	return 0
}

func TestFirstOfEachByte(t *testing.T) {
	for first := range 256 {
		if got := ice.First([]byte{byte(first)}); got != kindOf(first) {
			t.Errorf("%d: %d", first, got)
		}
		for second := range 256 {
			want := kindOf(first)
			if want == 3 && second >= 192 && second <= 223 {
				want = 4
			}
			for _, more := range [][]byte{nil, {0}, {200}, {128, 200, 0}} {
				if got := ice.First(append([]byte{byte(first), byte(second)}, more...)); got != want {
					t.Errorf("%d %d %v: %d", first, second, more, got)
				}
			}
		}
	}
}

func TestFirstOfRanges(t *testing.T) {
	for b, want := range map[string]int{
		"": 0, "\x00": 1, "\x03": 1, "\x04": 0, "\x13": 0, "\x14": 2, "\x3f": 2, "\x40": 0, "\x7f": 0, "\x80": 3, "\xbf": 3, "\xc0": 0, "\xff": 0,
		"\x00\xc8": 1, "\x03\xc0": 1, "\x04\xc8": 0, "\x14\xc0": 2, "\x3f\xdf": 2, "\x40\xc0": 0, "\x7f\xdf": 0, "\xc0\xc0": 0, "\xff\xdf": 0,
		"\x80\xbf": 3, "\x80\xc0": 4, "\x80\xdf": 4, "\x80\xe0": 3, "\xbf\xbf": 3, "\xbf\xc0": 4, "\xbf\xdf": 4, "\xbf\xe0": 3, "\x80\x00": 3, "\xbf\xff": 3,
	} {
		if got := ice.First([]byte(b)); got != want {
			t.Errorf("%q: %d", b, got)
		}
	}
	if got := ice.First(nil); got != 0 {
		t.Error("nil:", got)
	}
}

func TestFirstReadsNoSpareRoom(t *testing.T) {
	all := []byte{0x80, 200, 0xa5}
	if got := ice.First(all[:1]); got != 3 {
		t.Error("a second byte beyond the end:", got)
	}
	if got := ice.First(all[:0]); got != 0 {
		t.Error("a first byte beyond the end:", got)
	}
	if string(all) != "\x80\xc8\xa5" {
		t.Errorf("written to: %x", all)
	}
}
