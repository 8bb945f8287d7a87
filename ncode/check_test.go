package ncode_test

import (
	"math"
	"slices"
	"testing"

	"semispace/api"
	"semispace/codetest"
	"semispace/heaptest"
	"semispace/ncode"
)

const huge = math.MaxUint64

// same reports whether two programs are equal.
func same(c, d ncode.Code) bool { return c.Args == d.Args && slices.Equal(c.Ins, d.Ins) }

// encode is ncode.Encode of a program that must stay as it is.
func encode(t *testing.T, c ncode.Code) ([]uint64, api.Errno) {
	t.Helper()
	given, unchanged := codetest.Guarded(c)
	l, e := ncode.Encode(given)
	if !unchanged() {
		t.Fatalf("Encode has changed %v", c)
	}
	return l, e
}

// decode is ncode.Decode of words that must stay as they are, whatever is done to
// the result.
func decode(t *testing.T, l []uint64) (ncode.Code, api.Errno) {
	t.Helper()
	given := heaptest.Roomy(l, 77)
	before := heaptest.Whole(given)
	c, e := ncode.Decode(given)
	if !slices.Equal(heaptest.Whole(given), before) {
		t.Fatalf("Decode has changed %v", l)
	}
	return c, e
}

// check is ncode.Check of a program and numbers that must stay as they are.
func check(t *testing.T, c ncode.Code, functions []int) api.Errno {
	t.Helper()
	given, unchanged := codetest.Guarded(c)
	numbers := heaptest.Roomy(functions, 77)
	before := heaptest.Whole(numbers)
	e := ncode.Check(given, numbers)
	if !unchanged() || !slices.Equal(heaptest.Whole(numbers), before) {
		t.Fatalf("Check has changed %v or %v", c, functions)
	}
	return e
}

// safe is ncode.Safe of a program that must stay as it is.
func safe(t *testing.T, c ncode.Code) bool {
	t.Helper()
	given, unchanged := codetest.Guarded(c)
	ok := ncode.Safe(given)
	if !unchanged() {
		t.Fatalf("Safe has changed %v", c)
	}
	if ncode.Safe(given) != ok {
		t.Fatalf("Safe of %v is not always the same", c)
	}
	return ok
}

var ins, jump, jumpIf, of = codetest.Ins, codetest.Jump, codetest.JumpIf, codetest.Of

// out writes a register.
func out(a int) ncode.Ins { return ins(ncode.Out, a, 0, 0) }

// move copies a register into a.
func move(a, b int) ncode.Ins { return ins(ncode.Move, a, b, 0) }

// getCritical is GetCritical of register c, with its result in a.
func getCritical(a, c int) ncode.Ins { return ins(ncode.Call, a, 19, c) }

// release is Release of register c, with its result in a.
func release(a, c int) ncode.Ins { return ins(ncode.Call, a, 20, c) }
