// Package num is numbers in few bytes: see DOC.md, chapter 1.
package num

import (
	"slices"

	"cordwain/api"
)

// longest is how many bytes the longest number has: ten times seven digits hold 64.
const longest = 10

// Put writes one.
func Put(n int) []byte {
	u := Zig(n)
	b := make([]byte, 0, width(u))
	for u >= 128 {
		b = append(b, byte(u)|128)
		u >>= 7
	}
	return append(b, byte(u))
}

// Get reads one.
func Get(b []byte) (n, used int, e api.Errno) {
	var u uint64
	for i := range min(len(b), longest) {
		digits := uint64(b[i] & 127)
		if i == longest-1 && digits > 1 {
			break
		}
		u |= digits << (7 * i)
		if b[i] >= 128 {
			continue
		}
		if b[i] == 0 && i > 0 {
			break
		}
		return Zag(u), i + 1, api.OK
	}
	return 0, 0, api.ErrBad
}

// Zig turns the sign about.
func Zig(n int) uint64 {
	return uint64(n)<<1 ^ uint64(n>>63)
}

// Zag turns it back.
func Zag(u uint64) int {
	return int(u>>1) ^ -int(u&1)
}

// Size is how many bytes.
func Size(n int) int {
	return width(Zig(n))
}

func width(u uint64) int {
	bytes := 1
	for u >= 128 {
		u >>= 7
		bytes++
	}
	return bytes
}

// All is all that bytes are.
func All(b []byte) func(yield func(int) bool) {
	own := slices.Clone(b)
	return func(yield func(int) bool) {
		rest := own
		for len(rest) > 0 {
			n, used, e := Get(rest)
			if e != api.OK || !yield(n) {
				return
			}
			rest = rest[used:]
		}
	}
}
