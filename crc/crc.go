// Package crc is layer 1: see shared/doc/01-crc.md.
//
// A polynomial below x^32 is kept in 32 bits as a sum has them: the lowest bit is that of x^31, the highest that of 1.
package crc

const (
	divisor = 0xedb88320 // without x^32, for which 33 bits would be needed
	one     = 1 << 31    // x^0
	octet   = 1 << 23    // x^8, by which a byte that follows multiplies
	longest = 1 << 40    // bytes that Join reckons with at most
)

// nibbles is what x^28 to x^31 leave, times x^4: sixteen rows, as tables at package level must be short.
var nibbles = [16]uint32{
	0x00000000, 0x1db71064, 0x3b6e20c8, 0x26d930ac,
	0x76dc4190, 0x6b6b51f4, 0x4db26158, 0x5005713c,
	0xedb88320, 0xf00f9344, 0xd6d6a3e8, 0xcb61b38c,
	0x9b64c2b0, 0x86d3d2d4, 0xa00ae278, 0xbdbdf21c,
}

// Sum is a text's check sum.
func Sum(b []byte) uint32 {
	const empty = 0 // the empty text's: 32 bits turned over twice
	return More(empty, b)
}

// More is that of more of it: a sum is all that must be known of the bytes ahead.
func More(sum uint32, b []byte) uint32 {
	left := ^sum
	for _, v := range b {
		left = fourOn(fourOn(left ^ uint32(v)))
	}
	return ^left
}

// Join is that of two texts, one behind the other.
// What is turned over in both, ahead and behind, cancels out: so the first sum is moved on by n bytes, and the second one is laid over it.
func Join(a, b uint32, n int) uint32 {
	return times(a, bytesOn(min(max(n, 0), longest))) ^ b
}

// fourOn multiplies by x^4.
func fourOn(p uint32) uint32 {
	return p>>4 ^ nibbles[p&15]
}

// bytesOn is x^(8n), made by squares, so that even the longest text takes some 40 steps.
func bytesOn(n int) uint32 {
	var power func(n int) uint32
	power = func(n int) uint32 {
		if n == 0 {
			return one
		}
		root := power(n / 2)
		square := times(root, root)
		if n%2 == 0 {
			return square
		}
		return times(square, octet)
	}
	return power(n)
}

// times multiplies two polynomials; it begins at x^31, so that each step needs only what the one ahead left.
func times(p, q uint32) uint32 {
	var product uint32
	for range 32 {
		product = oneOn(product)
		if p&1 == 1 {
			product ^= q
		}
		p >>= 1
	}
	return product
}

// oneOn multiplies by x.
func oneOn(p uint32) uint32 {
	if p&1 == 1 {
		return p>>1 ^ divisor
	}
	return p >> 1
}
