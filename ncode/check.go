package ncode

import "semispace/api"

// Check checks a program.
func Check(c Code, functions []int) api.Errno {
	if !runnable(c) {
		return api.ErrCode
	}
	for _, x := range c.Ins {
		if !calls(x, functions) {
			return api.ErrCode
		}
	}
	return api.OK
}

// runnable reports whether there are words of a program and each instruction
// keeps to what there is.
func runnable(c Code) bool {
	if !encodable(c) {
		return false
	}
	for _, x := range c.Ins {
		if !Fits(x, len(c.Ins)) {
			return false
		}
	}
	return true
}

// Fits reports whether the registers that a well-formed instruction uses exist,
// and it jumps to one of n instructions or behind the last one, if it jumps.
func Fits(x Ins, n int) bool {
	switch x.Op {
	case Move, Add, Sub, Mul, And, Less, Equal, Load, Store:
		return x.B < Registers
	case Jump, JumpIf:
		return x.K <= uint64(n)
	case Call:
		return x.C+Args(x.B) <= Registers
	}
	return true
}

// calls reports whether there is what an instruction calls, if it calls
// anything, with registers for all its parameters.
func calls(x Ins, functions []int) bool {
	switch x.Op {
	case Call:
		return Args(x.B) > 0
	case Upcall:
		// The sum of C and any number could overflow; what C leaves cannot.
		return x.B < len(functions) && functions[x.B] <= Registers-x.C
	}
	return true
}
