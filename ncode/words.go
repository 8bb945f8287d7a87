package ncode

import (
	"semispace/api"
	"semispace/bits"
)

// The numbers of bits of the fields in the first word of an instruction.
const (
	opBits       = 8
	registerBits = 4
	bBits        = 8
)

// maxArgs is the greatest number of arguments of a program.
const maxArgs = 3

// Encode returns the words of a program.
func Encode(c Code) ([]uint64, api.Errno) {
	if !encodable(c) {
		return nil, api.ErrArg
	}
	l := []uint64{uint64(c.Args)}
	for _, x := range c.Ins {
		l = append(l, fields(x), x.K)
	}
	return l, api.OK
}

// encodable reports whether there are words of a program.
func encodable(c Code) bool {
	if !within(c.Args, maxArgs) || len(c.Ins) > MaxCode {
		return false
	}
	for _, x := range c.Ins {
		if !wellFormed(x) {
			return false
		}
	}
	return true
}

// wellFormed reports whether each field of an instruction has a number that it
// can have in some program.
func wellFormed(x Ins) bool {
	return x.Op >= Const && x.Op <= Return &&
		within(x.A, Registers-1) && within(x.B, int(bits.Ones(bBits))) && within(x.C, Registers-1)
}

// within reports whether n is from 0 to last.
func within(n, last int) bool { return n >= 0 && n <= last }

// fields returns the first word of an instruction that is well-formed.
func fields(x Ins) uint64 {
	w, _ := bits.Pack([]bits.Field{ // well-formed fields fit
		{Width: opBits, Value: uint64(x.Op)},
		{Width: registerBits, Value: uint64(x.A)},
		{Width: bBits, Value: uint64(x.B)},
		{Width: registerBits, Value: uint64(x.C)},
	})
	return w
}

// Decode returns the program of words.
func Decode(l []uint64) (Code, api.Errno) {
	// As a word, a number of arguments cannot become another one.
	if len(l)%2 == 0 || len(l) > 1+2*MaxCode || l[0] > maxArgs {
		return Code{}, api.ErrForm
	}
	c := Code{Args: int(l[0])}
	for i := 1; i < len(l); i += 2 {
		x, ok := instruction(l[i], l[i+1])
		if !ok {
			return Code{}, api.ErrForm
		}
		c.Ins = append(c.Ins, x)
	}
	return c, api.OK
}

// instruction returns the instruction with these words, and false if none has
// them.
func instruction(w, k uint64) (Ins, bool) {
	l, e := bits.Unpack(w, []int{opBits, registerBits, bBits, registerBits})
	if e != api.OK {
		return Ins{}, false
	}
	x := Ins{Op: int(l[0]), A: int(l[1]), B: int(l[2]), C: int(l[3]), K: k}
	return x, wellFormed(x)
}
