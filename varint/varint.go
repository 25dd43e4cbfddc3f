// Package varint is layer 1: see shared/doc/01-varint.md.
package varint

import (
	"iter"
	"math/bits"
	"slices"

	"cuneiform/api"
)

const (
	width   = 7          // how many bits of the number a byte has
	more    = 1 << width // stands in each byte but the last one
	longest = 10         // how many bytes the greatest number has
)

// Put: the bytes of numbers.
func Put(l ...uint64) []byte {
	var out []byte
	for _, n := range l {
		for n >= more {
			out = append(out, byte(n)|more)
			n >>= width
		}
		out = append(out, byte(n))
	}
	return out
}

// Get: the number that bytes begin with, and how many it has.
func Get(b []byte) (uint64, int, api.Errno) {
	var n uint64
	var last byte
	size := 0
number:
	for i, c := range b {
		n |= uint64(c%more) << (width * i)
		switch {
		case c < more:
			size, last = i+1, c
			break number
		case i == longest-1:
			return 0, 0, api.ErrForm
		}
	}
	switch {
	case size == 0:
		return 0, 0, api.ErrEnd
	case size > 1 && last == 0: // fewer bytes would do
		return 0, 0, api.ErrForm
	case size == longest && last > 1: // nine bytes have 63 bits, so one is left
		return 0, 0, api.ErrForm
	}
	return n, size, api.OK
}

// Size: how many bytes a number has.
func Size(n uint64) int {
	return (bits.Len64(n|1) + width - 1) / width // nought has a byte as well
}

// Zig: the number of a signed one.
func Zig(n int64) uint64 {
	if n < 0 {
		return ^(uint64(n) << 1) // -2 n - 1 is 2 n, each bit turned about
	}
	return uint64(n) << 1
}

// Zag: the signed one of a number.
func Zag(n uint64) int64 {
	half := int64(n >> 1)
	if n%2 == 1 {
		return -half - 1
	}
	return half
}

// All: the numbers of bytes, and where they are.
func All(b []byte) iter.Seq2[int, uint64] {
	own := slices.Clone(b) // b may be changed ahead of the ranging
	return func(yield func(int, uint64) bool) {
		for at := 0; at < len(own); {
			n, size, e := Get(own[at:])
			if e != api.OK || !yield(at, n) {
				return
			}
			at += size
		}
	}
}

// Count: how many there are.
func Count(b []byte) (int, api.Errno) {
	count, end := 0, 0
	for at, n := range All(b) {
		count, end = count+1, at+Size(n)
	}
	if end == len(b) { // Get would tell ErrEnd of no bytes
		return count, api.OK
	}
	_, _, e := Get(b[end:])
	return count, e
}
