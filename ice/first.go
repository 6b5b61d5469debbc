package ice

// What a datagram may be.
const (
	other = 0
	stuns = 1
	data  = 2
	rtp   = 3
	rtcp  = 4
)

// First tells what a datagram is by its first byte, and where media and its control begin alike by its second.
func First(b []byte) int {
	if len(b) == 0 {
		return other
	}
	switch {
	case b[0] <= 3:
		return stuns
	case b[0] >= 20 && b[0] <= 63:
		return data
	case b[0] < 128 || b[0] > 191:
		return other
	case len(b) > 1 && b[1] >= 192 && b[1] <= 223:
		return rtcp
	}
	return rtp
}
