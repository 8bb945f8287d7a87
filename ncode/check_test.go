package ncode_test

import (
	"math"
	"slices"
	"testing"

	"semispace/api"
	"semispace/heaptest"
	"semispace/ncode"
)

const huge = math.MaxUint64

// guarded returns a copy of a program, with marks behind its instructions, and a
// function that reports whether it is still as it was.
func guarded(c ncode.Code) (ncode.Code, func() bool) {
	c.Ins = heaptest.Roomy(c.Ins, ncode.Ins{Op: 77})
	before, whole := c, heaptest.Whole(c.Ins)
	return c, func() bool {
		return c.Args == before.Args && len(c.Ins) == len(before.Ins) && slices.Equal(heaptest.Whole(c.Ins), whole)
	}
}

// same reports whether two programs are equal.
func same(c, d ncode.Code) bool { return c.Args == d.Args && slices.Equal(c.Ins, d.Ins) }

// encode is ncode.Encode of a program that must stay as it is.
func encode(t *testing.T, c ncode.Code) ([]uint64, api.Errno) {
	t.Helper()
	given, unchanged := guarded(c)
	l, e := ncode.Encode(given)
	if !unchanged() {
		t.Fatalf("Encode has changed %v", c)
	}
	return l, e
}

// decode is ncode.Decode of words that must stay as they are, whatever is done to
// the result.
func decode(t *testing.T, l []uint64) (ncode.Code, api.Errno) {
	t.Helper()
	given := heaptest.Roomy(l, 77)
	before := heaptest.Whole(given)
	c, e := ncode.Decode(given)
	if !slices.Equal(heaptest.Whole(given), before) {
		t.Fatalf("Decode has changed %v", l)
	}
	return c, e
}

// check is ncode.Check of a program and numbers that must stay as they are.
func check(t *testing.T, c ncode.Code, functions []int) api.Errno {
	t.Helper()
	given, unchanged := guarded(c)
	numbers := heaptest.Roomy(functions, 77)
	before := heaptest.Whole(numbers)
	e := ncode.Check(given, numbers)
	if !unchanged() || !slices.Equal(heaptest.Whole(numbers), before) {
		t.Fatalf("Check has changed %v or %v", c, functions)
	}
	return e
}

// safe is ncode.Safe of a program that must stay as it is.
func safe(t *testing.T, c ncode.Code) bool {
	t.Helper()
	given, unchanged := guarded(c)
	ok := ncode.Safe(given)
	if !unchanged() {
		t.Fatalf("Safe has changed %v", c)
	}
	if ncode.Safe(given) != ok {
		t.Fatalf("Safe of %v is not always the same", c)
	}
	return ok
}

// ins is an instruction without K.
func ins(op, a, b, c int) ncode.Ins { return ncode.Ins{Op: op, A: a, B: b, C: c} }

// jump jumps to an index.
func jump(to int) ncode.Ins { return ncode.Ins{Op: ncode.Jump, K: uint64(to)} }

// jumpIf jumps to an index if a register is not 0.
func jumpIf(a, to int) ncode.Ins { return ncode.Ins{Op: ncode.JumpIf, A: a, K: uint64(to)} }

// out writes a register.
func out(a int) ncode.Ins { return ins(ncode.Out, a, 0, 0) }

// move copies a register into a.
func move(a, b int) ncode.Ins { return ins(ncode.Move, a, b, 0) }

// getCritical is GetCritical of register c, with its result in a.
func getCritical(a, c int) ncode.Ins { return ins(ncode.Call, a, 19, c) }

// release is Release of register c, with its result in a.
func release(a, c int) ncode.Ins { return ins(ncode.Call, a, 20, c) }

// of is a program of these instructions.
func of(l ...ncode.Ins) ncode.Code { return ncode.Code{Ins: l} }

// long is a program of n instructions that do nothing of interest.
func long(n int) ncode.Code {
	c := ncode.Code{Ins: make([]ncode.Ins, n)}
	for i := range c.Ins {
		c.Ins[i] = ins(ncode.Const, i%8, i%256, 0)
	}
	return c
}

// extremes are numbers around the limits of all fields, and far beyond them;
// among them some whose low bits are those of a number that is allowed.
func extremes() []int {
	return []int{
		math.MinInt, math.MinInt + 1, -1 << 32, -256, -1, 0, 1, 2, 3, 4, 7, 8, 9, 15, 16, 17, 18,
		127, 128, 255, 256, 257, 263, 1 << 32, 1<<32 + 1, 1 << 62, math.MaxInt - 1, math.MaxInt,
	}
}
