// Package octets is layer 1: see shared/doc/01-octets.md.
package octets

import "slices"

const (
	maxSize    = 8          // bytes of a number of 64 bits
	maxDigits  = 10         // digits of seven bits that 64 bits need
	digitBits  = 7          // bits of a digit
	more       = 1 << 7     // the bit of a digit that others follow
	polynomial = 0xedb88320 // of CRC-32, bits turned
)

// Put tells b, and behind it the lowest size bytes of n, the lowest first (A1).
func Put(b []byte, size int, n uint64) []byte {
	size = min(max(size, 0), maxSize)
	row := copyOf(b, size)
	for range size {
		row = append(row, byte(n))
		n >>= 8
	}
	return row
}

// Get tells the number of size bytes of b from at on, the lowest first (A1).
func Get(b []byte, at, size int) (uint64, bool) {
	// at is held against a difference: at + size may wrap round.
	if at < 0 || size < 1 || size > maxSize || at > len(b)-size {
		return 0, false
	}
	n := uint64(0)
	for _, x := range slices.Backward(b[at : at+size]) {
		n = n<<8 | uint64(x)
	}
	return n, true
}

// PutVar tells b, and behind it n by digits of seven bits, the lowest first (A1).
func PutVar(b []byte, n uint64) []byte {
	row := copyOf(b, maxDigits)
	for n >= more {
		row = append(row, byte(n)|more)
		n >>= digitBits
	}
	return append(row, byte(n))
}

// GetVar tells the number that b begins with, as PutVar writes it, and how many bytes it has (A1).
func GetVar(b []byte) (uint64, int, bool) {
	size := digits(b)
	if !shortest(b[:size]) || tooGreat(b[:size]) {
		return 0, 0, false
	}
	n := uint64(0)
	for _, x := range slices.Backward(b[:size]) {
		n = n<<digitBits | uint64(x&^more)
	}
	return n, size, true
}

// Crc tells the CRC-32 of b (A1).
func Crc(b []byte) uint32 {
	crc := ^uint32(0)
	for _, x := range b {
		crc ^= uint32(x)
		for range 8 {
			// The lowest bit as a mask: a branch on it would be guessed wrong half of the time.
			crc = crc>>1 ^ polynomial&-(crc&1)
		}
	}
	return ^crc
}

// copyOf leaves room behind the bytes, so that appending to them copies nothing again.
func copyOf(b []byte, room int) []byte {
	return append(make([]byte, 0, len(b)+room), b...)
}

// digits tells how many bytes the number has that b begins with; 0, if it has no end within ten bytes.
func digits(b []byte) int {
	for i := range min(len(b), maxDigits) {
		if b[i] < more {
			return i + 1
		}
	}
	return 0
}

// shortest tells whether there are digits, and no fewer would do: the last one of several is not 0.
func shortest(b []byte) bool {
	return len(b) == 1 || len(b) > 1 && b[len(b)-1] != 0
}

// tooGreat tells whether digits need more than 64 bits: nine have 63, so the tenth may only be 1.
func tooGreat(b []byte) bool {
	return len(b) == maxDigits && b[maxDigits-1] > 1
}
