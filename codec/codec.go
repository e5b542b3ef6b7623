// Package codec is layer 1: how numbers, texts and lists stand in bytes: see shared/doc/01-codec.md.
package codec

import "math/bits"

const (
	// mostNoughts bounds a packed list of noughts: it has no bits, so nothing but its claim would bound it.
	mostNoughts = 65536
	// mostWidth is the width of the greatest int.
	mostWidth = 63
	// greatest is the greatest element of a list.
	greatest = uint64(1)<<63 - 1
)

// Zig is the zigzag form of a signed number: numbers near 0 come to small ones, whatever their sign.
func Zig(v int64) uint64 {
	return uint64(v)<<1 ^ uint64(v>>63)
}

// Zag is the signed number of a zigzag form.
func Zag(u uint64) int64 {
	return int64(u>>1) ^ -int64(u&1)
}

// UvarintLen is the number of bytes of v's uvarint.
func UvarintLen(v uint64) int {
	return max(1, (bits.Len64(v)+6)/7)
}

// Concat puts lists of bytes one behind the other, as new memory.
func Concat(parts ...[]byte) []byte {
	size := 0
	for _, p := range parts {
		size += len(p)
	}
	out := make([]byte, size)
	at := 0
	for _, p := range parts {
		at += copy(out[at:], p)
	}
	return out
}

// fresh is a copy of b, so that neither side sees what the other writes.
func fresh(b []byte) []byte {
	out := make([]byte, len(b))
	copy(out, b)
	return out
}

// widthOf is the least number of bits in which every element can be written; none is below 0.
func widthOf(list []int) int {
	all := 0
	for _, x := range list {
		all |= x
	}
	return bits.Len64(uint64(all))
}
