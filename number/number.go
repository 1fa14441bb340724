// Package number: whole numbers as bytes, each in one form: see DOC.md, chapter 2, P201.
package number

import "sluice/api"

const maxBytes = 10 // of a number

// Bytes tells those of a number.
func Bytes(u uint64) []byte {
	var b []byte
	for ; u > 127; u >>= 7 {
		b = append(b, byte(u)|128)
	}
	return append(b, byte(u))
}

// Read tells the number that b begins with, and the place behind it. api.ErrWire and another place, if there is none:
// 0, if it has no right form, len(b), if the bytes end in it.
func Read(b []byte) (u uint64, at int, e api.Errno) {
	for i, x := range b {
		u |= uint64(x&127) << (7 * i)
		switch {
		case i > 0 && x == 0, i == maxBytes-1 && x != 1:
			return 0, 0, api.ErrWire
		case x < 128:
			return u, i + 1, api.OK
		}
	}
	return 0, len(b), api.ErrWire
}

// Fold tells the number that a signed one is written as.
func Fold(n int) uint64 {
	// All bits of n >> 63 are ones below 0: so 2n is turned into -2n - 1 without leaving 64 bits.
	return uint64(n)<<1 ^ uint64(n>>63)
}

// Unfold tells the signed number that is written so.
func Unfold(u uint64) int { return int(u>>1) ^ -int(u&1) }
