package sha1

// polynomial is that of CRC-32, its bits turned about.
const polynomial = 0xedb88320

// CRC tells the CRC-32 of b.
func CRC(b []byte) uint32 {
	sum := ^uint32(0)
	for _, v := range b {
		sum ^= uint32(v)
		for range 8 {
			// -(sum & 1) is all ones where a 1 goes out, and 0 else.
			sum = sum>>1 ^ polynomial&-(sum&1)
		}
	}
	return ^sum
}
