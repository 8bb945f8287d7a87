package nmach_test

import (
	"math/big"
	"slices"

	"semispace/api"
	"semispace/codetest"
	"semispace/ncode"
	"semispace/nmach"
	"semispace/shadow"
)

// isFrame is 23.1's definition of a valid frame, with its limits written out.
func isFrame(c ncode.Code, f nmach.Frame) bool {
	return len(f.Regs) == 8 && f.Pc > -1 && f.Pc < len(c.Ins)+1
}

// expected is Step, or Model, as 23.2 says. What lower layers do is taken from
// them.
func expected[T any](s side[T], x T, c ncode.Code, f nmach.Frame) result[T] {
	switch {
	case !codetest.HasWords(c) || !isFrame(c, f):
		return result[T]{e: api.ErrArg}
	case !s.valid(x):
		return result[T]{e: api.ErrCorrupt}
	case f.Pc == len(c.Ins):
		return result[T]{x: x, f: f, v: nmach.Event{Kind: 4}}
	case !codetest.Inside(c.Ins[f.Pc], len(c.Ins)):
		return result[T]{e: api.ErrCode}
	}
	y := c.Ins[f.Pc]
	r := result[T]{x: x, f: nmach.Frame{Pc: f.Pc + 1, Regs: slices.Clone(f.Regs), Err: f.Err}}
	switch {
	case y.Op == ncode.Jump || y.Op == ncode.JumpIf && f.Regs[y.A] > 0:
		r.f.Pc = int(y.K)
	case y.Op >= ncode.Move && y.Op <= ncode.Equal:
		r.f.Regs[y.A] = combined(y.Op, f.Regs[y.B], f.Regs[y.C])
	case y.Op == ncode.Const:
		r.f.Regs[y.A] = y.K
	case y.Op == ncode.Error:
		r.f.Regs[y.A], r.f.Err = uint64(f.Err), api.OK
	case y.Op == ncode.Load || y.Op == ncode.Store || y.Op == ncode.Call:
		touch(s, &r, y, f.Regs)
	case s.pins(x) > 0 && y.Op == ncode.Upcall:
		r.f.Regs[y.A], r.f.Err = 0, 15
	case s.pins(x) > 0 && y.Op == ncode.Return:
		r.f.Err = 11
	case y.Op == ncode.Upcall:
		r.v = nmach.Event{Kind: 2, Ins: y}
	case y.Op == ncode.Out:
		r.v = nmach.Event{Kind: 1, Value: f.Regs[y.A]}
	case y.Op == ncode.Return:
		r.v = nmach.Event{Kind: 3, Value: f.Regs[y.A]}
	}
	return r
}

// combined is what becomes of B and C, computed without a limit to how great a
// number is.
func combined(op int, b, c uint64) uint64 {
	z, x, y := new(big.Int), new(big.Int).SetUint64(b), new(big.Int).SetUint64(c)
	switch op {
	case ncode.Move:
		z = x
	case ncode.Add:
		z.Add(x, y)
	case ncode.Sub:
		z.Sub(x, y)
	case ncode.Mul:
		z.Mul(x, y)
	case ncode.And:
		z.And(x, y)
	case ncode.Less:
		if x.Cmp(y) < 0 {
			z.SetInt64(1)
		}
	case ncode.Equal:
		if x.Cmp(y) == 0 {
			z.SetInt64(1)
		}
	}
	return z.Mod(z, new(big.Int).Lsh(big.NewInt(1), 64)).Uint64()
}

// touch is what an instruction does that can have an error of a lower layer.
func touch[T any](s side[T], r *result[T], y ncode.Ins, regs []uint64) {
	var next T
	var v uint64
	var e api.Errno
	switch y.Op {
	case ncode.Load:
		next = r.x
		v, e = s.load(r.x, regs[y.B])
	case ncode.Store:
		v = regs[y.A] // where it stays
		next, e = s.store(r.x, regs[y.A], regs[y.B])
	case ncode.Call:
		var l [3]uint64
		for i := range codetest.Arguments(y.B) {
			l[i] = regs[y.C+i]
		}
		next, v, r.fact, e = s.call(r.x, y.B, l[0], l[1], l[2])
	}
	if r.f.Regs[y.A] = v; e != api.OK {
		r.f.Err = e
		return
	}
	r.x = next
}

// 23.4: an error changes nothing but Err and the target register, which becomes
// 0 if it is not that of a Store or of a Return.
func changesTooMuch[T any](s side[T], before T, f nmach.Frame, y ncode.Ins, r result[T]) bool {
	regs := slices.Clone(f.Regs)
	if y.Op != ncode.Store && y.Op != ncode.Return {
		regs[y.A] = 0
	}
	return !s.same(before, r.x) || !slices.Equal(r.f.Regs, regs) || r.f.Pc != f.Pc+1 || r.v != (nmach.Event{})
}

// sameFrame reports whether two frames are equal.
func sameFrame(f, g nmach.Frame) bool {
	return f.Pc == g.Pc && f.Err == g.Err && slices.Equal(f.Regs, g.Regs)
}

// noFact is the fact of a step without a boundary call.
var noFact = shadow.Fact{}
