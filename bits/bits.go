// Package bits is layer 1: words of 32 bits, and numbers as bytes. See shared/doc/01-bits.md.
package bits

import "gateline/api"

const (
	wordBytes = 4
	maxBytes  = 8
)

// Rot is P1.1: the bits of x, n places further down, all the way round.
func Rot(x uint32, n int) uint32 {
	// The conversion keeps n's low bits, and 32 divides 2 to the power of 32: n below 0 comes out as the same turn the right way.
	down := uint32(n) % 32
	return x>>down | x<<(32-down)
}

// Words is P1.2: the words of b, of each the highest byte first.
func Words(b []byte) ([]uint32, api.Errno) {
	if len(b)%wordBytes != 0 {
		return nil, api.ErrArg
	}
	w := make([]uint32, len(b)/wordBytes)
	for i := range len(b) {
		w[i/wordBytes] = w[i/wordBytes]<<8 | uint32(b[i])
	}
	return w, api.OK
}

// Bytes is P1.2: the bytes of w, of each word the highest one first.
func Bytes(w []uint32) []byte {
	b := make([]byte, len(w)*wordBytes)
	for i := range len(b) {
		below := wordBytes - 1 - i%wordBytes
		b[i] = byte(w[i/wordBytes] >> (8 * below))
	}
	return b
}

// Put is P1.3: n as size bytes, the highest one first.
func Put(n, size int) ([]byte, api.Errno) {
	if size < 0 || size > maxBytes || n < 0 {
		return nil, api.ErrArg
	}
	// At 8 bytes the shift leaves nothing, so that every n has room there.
	if uint64(n)>>(8*size) != 0 {
		return nil, api.ErrOver
	}
	b := make([]byte, size)
	for i := range size {
		below := size - 1 - i
		b[i] = byte(uint64(n) >> (8 * below))
	}
	return b, api.OK
}

// Get is P1.3: the number that b is, the highest byte first.
func Get(b []byte) (int, api.Errno) {
	if len(b) > maxBytes {
		return 0, api.ErrArg
	}
	if len(b) == maxBytes && b[0] >= 128 {
		return 0, api.ErrOver
	}
	n := uint64(0)
	for i := range len(b) {
		n = n<<8 | uint64(b[i])
	}
	return int(n), api.OK
}
