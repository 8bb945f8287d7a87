// Package codetest describes native programs for the tests of other packages:
// which ones there are, and irregular ones. It uses none of the functions that
// these tests examine.
package codetest

import (
	"slices"

	"semispace/heaptest"
	"semispace/ncode"
)

// Ins is an instruction without K.
func Ins(op, a, b, c int) ncode.Ins { return ncode.Ins{Op: op, A: a, B: b, C: c} }

// Jump jumps to an index.
func Jump(to int) ncode.Ins { return ncode.Ins{Op: ncode.Jump, K: uint64(to)} }

// JumpIf jumps to an index if a register is not 0.
func JumpIf(a, to int) ncode.Ins { return ncode.Ins{Op: ncode.JumpIf, A: a, K: uint64(to)} }

// Of is a program of these instructions.
func Of(l ...ncode.Ins) ncode.Code { return ncode.Code{Ins: l} }

// Long is a program of n instructions that do nothing of interest.
func Long(n int) ncode.Code {
	c := ncode.Code{Ins: make([]ncode.Ins, n)}
	for i := range c.Ins {
		c.Ins[i] = Ins(ncode.Const, i%8, i%256, 0)
	}
	return c
}

// Guarded returns a copy of a program, with marks behind its instructions, and a
// function that reports whether it is still as it was.
func Guarded(c ncode.Code) (ncode.Code, func() bool) {
	c.Ins = heaptest.Roomy(c.Ins, ncode.Ins{Op: 77})
	before, whole := c, heaptest.Whole(c.Ins)
	return c, func() bool {
		return c.Args == before.Args && len(c.Ins) == len(before.Ins) && slices.Equal(heaptest.Whole(c.Ins), whole)
	}
}

// Arguments is the number of arguments of a boundary call.
func Arguments(op int) int {
	numbers := map[int]int{
		1: 2, 2: 1, 3: 1, 4: 1, 5: 1, 6: 2, 7: 3, 8: 2, 9: 3, 10: 2, 11: 1, 12: 1, 13: 1, 14: 1, 15: 1, 16: 1,
		17: 1, 18: 1, 19: 1, 20: 1,
	}
	return numbers[op]
}

// Formed is 22.2's definition of a well-formed instruction, with its limits
// written out.
func Formed(x ncode.Ins) bool {
	return x.Op > 0 && x.Op < 18 && x.A > -1 && x.A < 8 && x.B > -1 && x.B < 256 && x.C > -1 && x.C < 8
}

// HasWords reports whether there are words of a program.
func HasWords(c ncode.Code) bool {
	return c.Args > -1 && c.Args < 4 && len(c.Ins) < 257 &&
		!slices.ContainsFunc(c.Ins, func(x ncode.Ins) bool { return !Formed(x) })
}

// used are the registers that an instruction uses, as far as one knows without
// the functions.
func used(x ncode.Ins) []int {
	switch x.Op {
	case ncode.Jump:
		return nil
	case ncode.Move, ncode.Load, ncode.Store:
		return []int{x.A, x.B}
	case ncode.Add, ncode.Sub, ncode.Mul, ncode.And, ncode.Less, ncode.Equal:
		return []int{x.A, x.B, x.C}
	case ncode.Call:
		l := []int{x.A}
		for i := range Arguments(x.B) {
			l = append(l, x.C+i)
		}
		return l
	}
	return []int{x.A}
}

// Inside reports whether a well-formed instruction of a program of n uses only
// registers that exist, and jumps only to an instruction or behind them all.
func Inside(x ncode.Ins, n int) bool {
	jumps := x.Op == ncode.Jump || x.Op == ncode.JumpIf
	return (!jumps || x.K <= uint64(n)) && !slices.ContainsFunc(used(x), func(r int) bool { return r > 7 })
}
