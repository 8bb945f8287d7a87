package nmach_test

import (
	"slices"
	"testing"

	"semispace/api"
	"semispace/codetest"
	"semispace/envtest"
	"semispace/heaptest"
	"semispace/ncode"
	"semispace/nmach"
)

const huge = 1<<64 - 1

var ins, jump, jumpIf, of = codetest.Ins, codetest.Jump, codetest.JumpIf, codetest.Of

// set is a Const.
func set(a int, k uint64) ncode.Ins { return ncode.Ins{Op: ncode.Const, A: a, K: k} }

// regs are eight registers, of which the first ones have these values.
func regs(l ...uint64) []uint64 { return append(l, make([]uint64, 8-len(l))...) }

// at is a frame with this Pc and these registers.
func at(pc int, l ...uint64) nmach.Frame { return nmach.Frame{Pc: pc, Regs: regs(l...)} }

// failed is a frame with an error that the program has not asked for yet.
func failed(f nmach.Frame, e api.Errno) nmach.Frame {
	f.Err = e
	return f
}

// after does a step. It checks that its arguments stay as they are, whatever is
// done to the results, that the system is valid after it, and that together with
// an error all results are zero.
func after[T any](t *testing.T, s side[T], x T, c ncode.Code, f nmach.Frame) result[T] {
	t.Helper()
	givenX, isX := s.guarded(x)
	givenC, isC := codetest.Guarded(c)
	givenF, kept := f, heaptest.Roomy(f.Regs, 77)
	givenF.Regs = kept
	before := heaptest.Whole(kept)
	r := s.step(givenX, givenC, givenF)
	out := r
	out.x, out.f.Regs = s.copied(r.x), slices.Clone(r.f.Regs)
	envtest.Fill(r.f.Regs, 55)
	apart := s.overwrite(r.x)
	if !apart || slices.ContainsFunc(heaptest.Whole(r.f.Regs), func(v uint64) bool { return v != 55 }) {
		t.Fatalf("%s: slices of the result share memory: %v, %s", s.name, out.f, show(out.x))
	}
	if !isX() || !isC() || !slices.Equal(heaptest.Whole(kept), before) {
		t.Fatalf("%s: an argument has changed: %v, %v, %s", s.name, c, f, show(x))
	}
	if out.e == api.OK && !s.valid(out.x) {
		t.Fatalf("%s: the result is not valid: %s", s.name, show(out.x))
	}
	if out.e != api.OK {
		zero := result[T]{e: out.e}
		if !s.same(out.x, zero.x) || !sameFrame(out.f, zero.f) || out.v != zero.v || out.fact != zero.fact {
			t.Fatalf("%s: with error %d the results are %v, %v, %v, %s", s.name, out.e, out.f, out.v, out.fact, show(out.x))
		}
	}
	return out
}

// steps does a step and checks all that it returns.
func steps[T any](t *testing.T, s side[T], x T, c ncode.Code, f nmach.Frame) result[T] {
	t.Helper()
	r, want := after(t, s, x, c, f), expected(s, x, c, f)
	if r.e != want.e || r.v != want.v || r.fact != want.fact || !sameFrame(r.f, want.f) || !s.same(r.x, want.x) {
		t.Fatalf("%s of %v at %v:\n%v, %v, %v, error %d, want\n%v, %v, %v, error %d\nwith %s\nand then %s, want\n%s", s.name, c, f,
			r.f, r.v, r.fact, r.e, want.f, want.v, want.fact, want.e, show(x), show(r.x), show(want.x))
	}
	if isNew := r.e == api.OK && r.f.Err != api.OK && r.f.Err != f.Err; isNew && changesTooMuch(s, x, f, c.Ins[f.Pc], r) {
		t.Fatalf("%s of %v at %v: error %d changes too much: %v, %v, %s", s.name, c, f, r.f.Err, r.f, r.v, show(r.x))
	}
	return r
}

// refuses checks the error of a step.
func refuses[T any](t *testing.T, s side[T], x T, c ncode.Code, f nmach.Frame, want api.Errno) {
	t.Helper()
	if r := steps(t, s, x, c, f); r.e != want {
		t.Errorf("%s of %v at %v: error %d, want %d, with %s", s.name, c, f, r.e, want, show(x))
	}
}

// often checks that all these things have happened often.
func often(t *testing.T, count envtest.Counts, n int, things ...string) {
	t.Helper()
	if l := count.Seldom(n, things...); len(l) > 0 {
		t.Errorf("hardly any: %v, of %v", l, count)
	}
}
