package nmach_test

import (
	"slices"
	"testing"

	"semispace/api"
	"semispace/boundary"
	"semispace/codetest"
	"semispace/envtest"
	"semispace/ncode"
	"semispace/nmach"
	"semispace/worldtest"
)

// refuses checks on both sides the error of a step.
func (p place) refuses(t *testing.T, c ncode.Code, f nmach.Frame, want api.Errno) {
	t.Helper()
	refuses(t, real(), p.x, c, f, want)
	refuses(t, modelled(noFact), p.w, c, f, want)
}

// ends are programs and frames in which the next instruction is good, is not,
// and is none.
func ends() map[*ncode.Code]nmach.Frame {
	return map[*ncode.Code]nmach.Frame{
		{Ins: []ncode.Ins{set(1, 2)}}:                               at(0, 4148),
		{Ins: []ncode.Ins{ins(ncode.Load, 1, 0, 0)}}:                at(0, 4148),
		{Ins: []ncode.Ins{ins(ncode.Load, 1, 8, 0)}}:                at(0, 4148),
		{Ins: []ncode.Ins{set(1, 2), jump(3)}}:                      at(1),
		{Ins: []ncode.Ins{set(1, 2), jump(3)}}:                      at(2),
		{}:                                                          at(0),
		{Args: 3, Ins: []ncode.Ins{ins(ncode.Return, 0, 0, 0)}}:     at(0),
		{Ins: []ncode.Ins{ins(ncode.Upcall, 0, 255, 7)}}:            at(0),
		{Ins: []ncode.Ins{ins(ncode.Call, 1, boundary.SetWord, 6)}}: at(0),
	}
}

// 23.2: programs without words come before everything else that is wrong.
func TestProgramsWithoutWords(t *testing.T) {
	corrupt := place{api.Env{}, worldtest.Corrupt()[0]}
	for _, p := range []place{pinned(), unpinned(), corrupt} {
		for _, n := range codetest.Extremes() {
			if n >= 0 && n <= 3 {
				continue
			}
			for c, f := range ends() {
				c.Args = n
				p.refuses(t, *c, f, api.ErrArg)
			}
		}
		for pc := range 5 {
			for i := range 4 {
				for _, bad := range []ncode.Ins{{}, ins(18, 0, 0, 0), ins(-1, 0, 0, 0), ins(15, 8, 0, 0), ins(15, -1, 0, 0), ins(15, 0, 256, 0), ins(15, 0, -1, 0), ins(15, 0, 0, 8), ins(15, 0, 0, -1)} {
					c := codetest.Long(4)
					c.Ins[i] = bad
					p.refuses(t, c, at(pc), api.ErrArg)
				}
			}
		}
		for _, n := range []int{257, 258, 1000} {
			for _, pc := range []int{0, 1, 255, 256, 257, n} {
				p.refuses(t, codetest.Long(n), at(pc), api.ErrArg)
			}
		}
	}
}

// 23.2: frames that are not valid, too, at the end of the program as well.
func TestInvalidFrames(t *testing.T) {
	corrupt := place{api.Env{}, worldtest.Corrupt()[0]}
	for _, p := range []place{pinned(), unpinned(), corrupt} {
		for _, n := range []int{0, 1, 2, 256} {
			c := codetest.Long(n)
			for i := range c.Ins {
				if i%2 == 1 {
					c.Ins[i] = ins(ncode.Move, 0, 8, 0)
				}
			}
			for _, pc := range append(codetest.Extremes(), n+1) {
				if pc < 0 || pc > n {
					p.refuses(t, c, at(pc), api.ErrArg)
				}
			}
			for _, k := range []int{0, 1, 7, 9, 16} {
				for _, pc := range []int{-1, 0, n, n + 1} {
					p.refuses(t, c, nmach.Frame{Pc: pc, Regs: make([]uint64, k)}, api.ErrArg)
					p.refuses(t, c, nmach.Frame{Pc: pc, Regs: make([]uint64, k), Err: api.ErrNull}, api.ErrArg)
				}
			}
			p.refuses(t, c, nmach.Frame{}, api.ErrArg)
		}
	}
}

// 23.2: environments and worlds that are not valid come before what is wrong with
// the instruction, and also where there is none.
func TestCorrupt(t *testing.T) {
	for c, f := range ends() {
		for _, x := range envtest.Corrupt() {
			refuses(t, real(), x, *c, f, api.ErrCorrupt)
		}
		for _, w := range worldtest.Corrupt() {
			refuses(t, modelled(noFact), w, *c, f, api.ErrCorrupt)
		}
	}
}

// 23.2: environments and worlds that are valid at the last value that is
// allowed.
func TestAllowed(t *testing.T) {
	for c, f := range ends() {
		for _, x := range envtest.Allowed() {
			steps(t, real(), x, *c, f)
		}
		for _, w := range worldtest.Allowed() {
			steps(t, modelled(noFact), w, *c, f)
		}
	}
}

// codes checks whether a step has ErrCode, with the instruction in front of
// others, between them, and behind them.
func codes(t *testing.T, x ncode.Ins, n int, isWrong bool) {
	t.Helper()
	for _, p := range []place{begun(2), pinned()} {
		for i := range n {
			c := codetest.Long(n)
			c.Ins[i] = x
			r, q := steps(t, real(), p.x, c, at(i)), steps(t, modelled(noFact), p.w, c, at(i))
			if (r.e == api.ErrCode) != isWrong || (q.e == api.ErrCode) != isWrong {
				t.Fatalf("%v in a program of %d: error %d, and in the model %d", x, n, r.e, q.e)
			}
		}
	}
}

// 23.2: the registers that an instruction uses; in others B is anything.
func TestErrCodeOfRegisters(t *testing.T) {
	uses := []int{ncode.Move, ncode.Add, ncode.Sub, ncode.Mul, ncode.And, ncode.Less, ncode.Equal, ncode.Load, ncode.Store}
	for op := ncode.Const; op <= ncode.Return; op++ {
		if op == ncode.Call {
			continue
		}
		for _, b := range []int{0, 1, 6, 7, 8, 9, 15, 16, 128, 254, 255} {
			codes(t, ins(op, 0, b, 7), 1, b > 7 && slices.Contains(uses, op))
			codes(t, ins(op, 7, b, 0), 3, b > 7 && slices.Contains(uses, op))
		}
	}
}

// 23.2: the last argument of a call.
func TestErrCodeOfCalls(t *testing.T) {
	for op := range 256 {
		for c := range 8 {
			codes(t, ins(ncode.Call, 7, op, c), 1, c+codetest.Arguments(op) > 8)
		}
	}
	for op, last := range map[int]int{boundary.SetRef: 5, boundary.Same: 6, boundary.Release: 7, 0: 7} {
		for c := range 8 {
			codes(t, ins(ncode.Call, 0, op, c), 2, c > last)
		}
	}
}

// 23.2: targets of jumps, whether the program jumps or not; of other
// instructions K is anything.
func TestErrCodeOfJumps(t *testing.T) {
	for _, n := range []int{1, 2, 3} {
		for _, k := range []uint64{0, uint64(n - 1), uint64(n), uint64(n + 1), 255, 256, 257, 1 << 32, 1 << 63, 1<<63 + 1, huge} {
			for op := ncode.Const; op <= ncode.Return; op++ {
				jumps := op == ncode.Jump || op == ncode.JumpIf
				codes(t, ncode.Ins{Op: op, K: k}, n, jumps && k > uint64(n))
				codes(t, ncode.Ins{Op: op, A: 1, B: 1, C: 1, K: k}, n, jumps && k > uint64(n))
			}
		}
	}
	c := codetest.Long(256)
	for _, x := range []ncode.Ins{jump(257), jumpIf(0, 257), jumpIf(1, 257)} {
		c.Ins[255] = x
		pinned().refuses(t, c, at(255, 0, 1), api.ErrCode)
	}
}

// 23.2: only the instruction at Pc is examined.
func TestErrCodeElsewhere(t *testing.T) {
	for _, bad := range []ncode.Ins{ins(ncode.Move, 0, 8, 0), jump(4), jumpIf(0, 99), ins(ncode.Call, 0, boundary.SetRef, 6)} {
		c := of(bad, set(1, 2), bad)
		pinned().leads(t, c, at(1, 5), pinned(), at(2, 5, 2), next)
		pinned().leads(t, c, at(3, 5), pinned(), at(3, 5), nmach.Event{Kind: nmach.Ends})
		pinned().refuses(t, c, at(0, 5), api.ErrCode)
		pinned().refuses(t, c, at(2, 5), api.ErrCode)
	}
}
