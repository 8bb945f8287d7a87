package codetest

import (
	"math"

	"semispace/heaptest"
	"semispace/ncode"
)

// Extremes are numbers around the limits of all fields, and far beyond them;
// among them some whose low bits are those of a number that is allowed.
func Extremes() []int {
	return []int{
		math.MinInt, math.MinInt + 1, -1 << 32, -256, -1, 0, 1, 2, 3, 4, 7, 8, 9, 15, 16, 17, 18,
		127, 128, 255, 256, 257, 263, 1 << 32, 1<<32 + 1, 1 << 62, math.MaxInt - 1, math.MaxInt,
	}
}

// Spoil changes one part of an instruction to something that is often not
// allowed.
func Spoil(x *heaptest.Numbers, y *ncode.Ins) {
	l := Extremes()
	n := l[x.Below(len(l))]
	switch x.Below(5) {
	case 0:
		y.Op = n
	case 1:
		y.A = n
	case 2:
		y.B = n
	case 3:
		y.C = n
	case 4:
		y.K = uint64(n)
	}
}
