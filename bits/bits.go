// Package bits is layer 1: it packs and unpacks fields of 64-bit words. See
// shared/doc/01-bits.md.
package bits

import "semispace/api"

const wordBits = 64

// Field is a field of a word: Width is the number of its bits.
type Field struct {
	Width int
	Value uint64
}

// Ones returns the word whose n least significant bits are 1.
func Ones(n int) uint64 {
	if n < 0 {
		return 0
	}
	// A shift by 64 or more leaves 0, and 0 - 1 has all bits.
	return uint64(1)<<n - 1
}

// Get returns the number in the n bits of w from bit at on.
func Get(w uint64, at, n int) (uint64, api.Errno) {
	if !inWord(at, n) {
		return 0, api.ErrArg
	}
	return w >> at & Ones(n), api.OK
}

// Set returns w with v in the n bits from bit at on.
func Set(w uint64, at, n int, v uint64) (uint64, api.Errno) {
	if !inWord(at, n) {
		return 0, api.ErrArg
	}
	if v > Ones(n) {
		return 0, api.ErrRange
	}
	return w&^(Ones(n)<<at) | v<<at, api.OK
}

// inWord reports whether n bits from bit at on lie in a word.
func inWord(at, n int) bool {
	// at + n could overflow; with at not negative, wordBits - at cannot.
	return at >= 0 && n >= 0 && n <= wordBits-at
}

// Pack returns the word with the fields of l, the first one in the least
// significant bits.
func Pack(l []Field) (uint64, api.Errno) {
	if !fit(len(l), func(i int) int { return l[i].Width }) {
		return 0, api.ErrArg
	}
	w := uint64(0)
	for i := range len(l) {
		// From the last field down: each shift makes room for the one before it.
		f := l[len(l)-1-i]
		if f.Value > Ones(f.Width) {
			return 0, api.ErrRange
		}
		w = w<<f.Width | f.Value
	}
	return w, api.OK
}

// Unpack returns the numbers of the fields of w that have these widths, the
// least significant one first.
func Unpack(w uint64, widths []int) ([]uint64, api.Errno) {
	if !fit(len(widths), func(i int) int { return widths[i] }) {
		return nil, api.ErrArg
	}
	l := make([]uint64, len(widths))
	for i := range len(widths) {
		l[i] = w & Ones(widths[i])
		w >>= widths[i]
	}
	if w != 0 {
		return nil, api.ErrRange
	}
	return l, api.OK
}

// fit reports whether a word has room for count fields of these widths, each
// of at least one bit.
func fit(count int, width func(i int) int) bool {
	left := wordBits
	for i := range count {
		// The sum of the widths could overflow; what is left cannot.
		if width(i) < 1 || width(i) > left {
			return false
		}
		left -= width(i)
	}
	return true
}
