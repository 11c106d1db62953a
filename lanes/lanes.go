// Package lanes is layer 1: see shared/doc/01-lanes.md.
package lanes

// size is how many bytes a word has.
const size = 8

// Words that hold one byte eight times.
const (
	ones    = 0x0101010101010101
	highest = 0x8080808080808080 // the highest bit of each byte
	lower   = 0x7f7f7f7f7f7f7f7f // all but that one
	upper   = 0xfefefefefefefefe // all but the lowest bit
	modulus = 0x1d1d1d1d1d1d1d1d // the field's polynomial without x^8
	half    = 0x8e8e8e8e8e8e8e8e // 1 halved: the whole polynomial, 11d, shifted down
)

// Load: eight bytes of a text, from a place on.
func Load(s string, at int) uint64 {
	var x uint64
	for i := range size {
		// Behind the greatest int the sum wraps to a number below 0, which is no place either.
		place := at + i
		if place >= 0 && place < len(s) {
			x |= uint64(s[place]) << (8 * i)
		}
	}
	return x
}

// Store: the eight bytes of a word.
func Store(x uint64) string {
	var b [size]byte
	for i := range size {
		b[i] = byte(x >> (8 * i))
	}
	return string(b[:])
}

// Spread: eight times a byte.
func Spread(b byte) uint64 {
	return uint64(b) * ones
}

// High: in each byte all bits, if its highest one is set.
func High(x uint64) uint64 {
	// Each byte is 0 or 1 ahead of the product, so that nothing is carried over to the next one.
	return ((x & highest) >> 7) * 0xff
}

// Twice: each byte doubled.
func Twice(x uint64) uint64 {
	return ((x << 1) & upper) ^ (High(x) & modulus)
}

// Half: each byte halved.
func Half(x uint64) uint64 {
	// By the shift each byte's lowest bit comes to where High looks: it is set in the bytes that were reduced when they were doubled.
	return ((x >> 1) & lower) ^ (High(x<<7) & half)
}

// Times: each byte times a byte.
func Times(x uint64, c byte) uint64 {
	var sum uint64
	for i := range 8 {
		if (c>>i)&1 != 0 {
			sum ^= x
		}
		x = Twice(x)
	}
	return sum
}
