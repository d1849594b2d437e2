// Package varint is layer 1: it writes numbers in few bytes (chapter 1 of the document).
package varint

import (
	"cooperage/api"
)

const (
	more    = 128 // added to each byte but a number's last one
	bits    = 7   // of a number, in each of its bytes
	maxSize = 10  // bytes of the greatest number
	maxTop  = 1   // the greatest byte in the last of maxSize places: 9 bytes hold 63 bits, so one is left
)

// Put answers b with x behind it.
func Put(b []byte, x uint64) []byte {
	// append to b itself could write into its spare room, which belongs to the caller.
	out := make([]byte, len(b), len(b)+maxSize)
	copy(out, b)
	for x >= more {
		out = append(out, byte(x%more)+more)
		x >>= bits
	}
	return append(out, byte(x))
}

// Get answers the number that b begins with, and how many bytes it has.
func Get(b []byte) (uint64, int, api.Errno) {
	x := uint64(0)
	for i, c := range b {
		// A tenth byte with more behind it is above maxTop as well: both kinds of too long are met here.
		if i == maxSize-1 && c > maxTop {
			return 0, 0, api.ErrLong
		}
		x |= uint64(c%more) << (bits * i)
		if c >= more {
			continue
		}
		if c == 0 && i > 0 {
			return 0, 0, api.ErrSyntax
		}
		return x, i + 1, api.OK
	}
	return 0, 0, api.ErrShort
}

// Fold answers 2n, of n below 0 -2n - 1.
func Fold(n int) uint64 {
	twice := 2 * uint64(n)
	if n < 0 {
		// -y - 1 is y with all bits turned, at the smallest int too, where -n would not be there.
		return ^twice
	}
	return twice
}

// Unfold answers the int of which x is the Fold.
func Unfold(x uint64) int {
	half := int(x / 2)
	if x%2 == 1 {
		return -1 - half
	}
	return half
}
