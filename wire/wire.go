// Package wire is layer 1: serial number arithmetic, a byte reader, a ring and a table of bounded size.
package wire

// Before16 tells whether b is from 1 to 2^15 - 1 behind a, in numbers that wrap.
func Before16(a, b uint16) bool {
	d := b - a
	return d != 0 && d < 1<<15
}

// Before32 tells whether b is from 1 to 2^31 - 1 behind a, in numbers that wrap.
func Before32(a, b uint32) bool {
	d := b - a
	return d != 0 && d < 1<<31
}

// Far16 tells how far b is behind a, from -2^15 to 2^15 - 1: below 0, if it is ahead.
func Far16(a, b uint16) int {
	return int(int16(b - a))
}
