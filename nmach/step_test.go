package nmach_test

import (
	"testing"

	"semispace/api"
	"semispace/codetest"
	"semispace/envtest"
	"semispace/heaptest"
	"semispace/ncode"
	"semispace/nmach"
	"semispace/rules"
	"semispace/worldtest"
)

// place is an environment and its model.
type place struct {
	x api.Env
	w rules.World
}

// pinned is a place with pins: the Words at 4147 have the fields 5 and huge, at
// 4148 and 4149, those at 4192 have 15 fields 0, and the Refs at 4150 one field.
func pinned() place { return place{envtest.Ordinary(), worldtest.Ordinary()} }

// unpinned is the same place without pins.
func unpinned() place {
	return pinned().changed(
		func(x *api.Env) { x.Pins, x.Heap = nil, heaptest.WithPins(x.Heap) },
		func(w *rules.World) { w.Marks = nil },
	)
}

// changed is the same place after changes.
func (p place) changed(x func(x *api.Env), w func(w *rules.World)) place {
	return place{envtest.Changed(p.x, x), worldtest.Changed(p.w, w)}
}

// stored is the same place with another field of the Words at 4147.
func (p place) stored(i int, v uint64) place {
	return p.changed(func(x *api.Env) { x.Heap.Words[52+i] = v }, func(w *rules.World) { w.Things[8].Fields[i] = v })
}

// leads checks on both sides to which place, frame and event a step leads,
// without a boundary call.
func (p place) leads(t *testing.T, c ncode.Code, f nmach.Frame, to place, g nmach.Frame, v nmach.Event) {
	t.Helper()
	r, q := steps(t, real(), p.x, c, f), steps(t, modelled(noFact), p.w, c, f)
	if r.e != api.OK || r.fact != noFact || r.v != v || !sameFrame(r.f, g) || !envtest.Same(r.x, to.x) {
		t.Errorf("Step of %v at %v: %v, %v, %v, error %d, want %v, %v", c, f, r.f, r.v, r.fact, r.e, g, v)
	}
	if q.e != api.OK || q.v != v || !sameFrame(q.f, g) || !worldtest.Same(q.x, to.w) {
		t.Errorf("Model of %v at %v: %v, %v, error %d, want %v, %v", c, f, q.f, q.v, q.e, g, v)
	}
}

// next is the event after which the next instruction comes.
var next = nmach.Event{}

// does is leads, with a program of one instruction, which changes no place: from
// these registers to those, with the event Next. An error that the program has
// not asked for yet stays.
func does(t *testing.T, x ncode.Ins, from, to []uint64) {
	t.Helper()
	for _, e := range []api.Errno{api.OK, api.ErrNull} {
		for _, p := range []place{pinned(), unpinned()} {
			p.leads(t, of(x), failed(at(0, from...), e), p, failed(at(1, to...), e), next)
			p.leads(t, of(set(1, 2), x, set(1, 2)), failed(at(1, from...), e), p, failed(at(2, to...), e), next)
		}
	}
}

// with is eight different registers, one of which is v.
func with(r int, v uint64) []uint64 {
	l := []uint64{10, 11, 12, 13, 14, 15, 16, 17}
	l[r] = v
	return l
}

// 23.2: Const, with each register and any number. What an instruction does not
// use is anything.
func TestConst(t *testing.T) {
	for a := range 8 {
		for _, k := range []uint64{0, 1, 255, 256, 4148, 1 << 63, huge} {
			does(t, ncode.Ins{Op: ncode.Const, A: a, B: 255, C: 7, K: k}, with(a, 3), with(a, k))
		}
	}
}

// 23.2: results of the instructions with B and C, modulo 2^64 and without signs.
func TestArithmetic(t *testing.T) {
	for _, y := range []struct {
		op         int
		b, c, want uint64
	}{
		{ncode.Move, 5, 3, 5}, {ncode.Move, 0, 3, 0}, {ncode.Move, huge, huge, huge},
		{ncode.Add, 5, 3, 8}, {ncode.Add, huge, 1, 0}, {ncode.Add, huge, huge, huge - 1}, {ncode.Add, 1 << 63, 1 << 63, 0},
		{ncode.Sub, 5, 3, 2}, {ncode.Sub, 3, 5, huge - 1}, {ncode.Sub, 0, 1, huge}, {ncode.Sub, 7, 0, 7}, {ncode.Sub, 1, huge, 2}, {ncode.Sub, 0, 1 << 63, 1 << 63},
		{ncode.Mul, 5, 3, 15}, {ncode.Mul, huge, huge, 1}, {ncode.Mul, 1 << 32, 1 << 32, 0}, {ncode.Mul, 1<<32 + 1, 1 << 32, 1 << 32}, {ncode.Mul, 9, 0, 0},
		{ncode.And, 6, 3, 2}, {ncode.And, huge, 1 << 63, 1 << 63}, {ncode.And, 5, 2, 0},
		{ncode.Less, 3, 5, 1}, {ncode.Less, 5, 3, 0}, {ncode.Less, 5, 5, 0}, {ncode.Less, 0, huge, 1}, {ncode.Less, huge, 0, 0}, {ncode.Less, 1<<63 - 1, 1 << 63, 1},
		{ncode.Equal, 5, 5, 1}, {ncode.Equal, 5, 6, 0}, {ncode.Equal, huge, huge, 1}, {ncode.Equal, 1, 1<<32 + 1, 0}, {ncode.Equal, 0, 1 << 63, 0},
	} {
		does(t, ncode.Ins{Op: y.op, A: 2, B: 0, C: 7, K: huge}, regs(y.b, 1, 9, 3, 4, 5, 6, y.c), regs(y.b, 1, y.want, 3, 4, 5, 6, y.c))
		does(t, ncode.Ins{Op: y.op, A: 0, B: 0, C: 1}, regs(y.b, y.c), regs(y.want, y.c))
		does(t, ncode.Ins{Op: y.op, A: 7, B: 3, C: 7}, regs(1, 2, 3, y.b, 4, 5, 6, y.c), regs(1, 2, 3, y.b, 4, 5, 6, y.want))
	}
}

// 23.2: the instructions with B and C, with all registers. Those that only use
// fewer take any others.
func TestRegisters(t *testing.T) {
	for op := ncode.Const; op <= ncode.Return; op++ {
		if op == ncode.Call { // see TestCallRegisters
			continue
		}
		for a := range 8 {
			for b := range 8 {
				for c := range 8 {
					x, f := ncode.Ins{Op: op, A: a, B: b, C: c, K: 1}, at(0, 0, 1, huge, 1<<63, 4097, 5, 5, 1<<63+2)
					steps(t, real(), envtest.Empty(), of(x), f)
					steps(t, modelled(noFact), worldtest.Empty(), of(x), failed(f, api.ErrNull))
				}
			}
		}
	}
}

// 23.2: jumps lead to any instruction, and behind the last one.
func TestJumps(t *testing.T) {
	for _, n := range []int{1, 2, 5, 256} {
		for _, to := range []int{0, n / 2, n - 1, n} {
			for _, pc := range []int{0, n / 2, n - 1} {
				for _, v := range []uint64{0, 1, 2, 256, 1 << 32, 1 << 63, huge} {
					c := codetest.Long(n)
					c.Ins[pc] = jump(to)
					unpinned().leads(t, c, at(pc, with(4, v)...), unpinned(), at(to, with(4, v)...), next)
					after := to
					if c.Ins[pc] = jumpIf(4, to); v == 0 {
						after = pc + 1
					}
					unpinned().leads(t, c, at(pc, with(4, v)...), unpinned(), at(after, with(4, v)...), next)
				}
			}
		}
	}
	for _, op := range []int{ncode.Jump, ncode.JumpIf} {
		x := ncode.Ins{Op: op, A: 7, B: 255, C: 7, K: 3}
		for _, p := range []place{pinned(), unpinned()} {
			p.leads(t, of(x, x, x), failed(at(1, with(7, 1)...), api.ErrNull), p, failed(at(3, with(7, 1)...), api.ErrNull), next)
		}
	}
}

// 23.2: Load from fields of pinned objects, the first and the last one.
func TestLoad(t *testing.T) {
	p := pinned()
	for addr, v := range map[uint64]uint64{4148: 5, 4149: huge, 4193: 0, 4207: 0} {
		for _, e := range []api.Errno{api.OK, api.ErrNull} {
			p.leads(t, of(ins(ncode.Load, 2, 7, 5)), failed(at(0, with(7, addr)...), e), p, failed(at(1, 10, 11, v, 13, 14, 15, 16, addr), e), next)
			p.leads(t, of(ins(ncode.Load, 7, 7, 0)), failed(at(0, with(7, addr)...), e), p, failed(at(1, with(7, v)...), e), next)
		}
	}
}

// 23.2: Load from elsewhere makes the register 0, and changes the error.
func TestLoadErrors(t *testing.T) {
	fails := func(p place, addr uint64, want api.Errno) {
		t.Helper()
		for _, e := range []api.Errno{api.OK, api.ErrNull, want} {
			p.leads(t, of(ins(ncode.Load, 2, 7, 5)), failed(at(0, with(7, addr)...), e), p, failed(at(1, 10, 11, 0, 13, 14, 15, 16, addr), want), next)
			p.leads(t, of(ins(ncode.Load, 7, 7, 0)), failed(at(0, with(7, addr)...), e), p, failed(at(1, with(7, 0)...), want), next)
		}
	}
	for _, addr := range []uint64{0, 1, 4095, 4096, 4097, 4147, 4150, 4152, 4192, 4208, 4223, 4224, 1<<32 + 4148, 1<<63 + 4148, huge} {
		fails(pinned(), addr, api.ErrExtent)
	}
	fails(pinned(), 4151, api.ErrPointer)
	for _, addr := range []uint64{0, 4148, 4151, 4193} {
		fails(unpinned(), addr, api.ErrExtent)
	}
}

// 23.2: Store into fields of pinned objects, of any word.
func TestStore(t *testing.T) {
	for i := range 2 {
		addr := uint64(4148 + i)
		for _, v := range []uint64{0, 5, 4147, 4148, 1 << 63, huge} {
			for _, e := range []api.Errno{api.OK, api.ErrNull} {
				l := with(7, addr)
				l[2] = v
				pinned().leads(t, of(ins(ncode.Store, 7, 2, 5)), failed(at(0, l...), e), pinned().stored(i, v), failed(at(1, l...), e), next)
			}
		}
		pinned().leads(t, of(ins(ncode.Store, 7, 7, 0)), at(0, with(7, addr)...), pinned().stored(i, addr), at(1, with(7, addr)...), next)
	}
}

// 23.2: Store elsewhere changes the error, and no register.
func TestStoreErrors(t *testing.T) {
	fails := func(p place, addr uint64, want api.Errno) {
		t.Helper()
		for _, e := range []api.Errno{api.OK, api.ErrNull, want} {
			for _, b := range []int{0, 7} {
				p.leads(t, of(ins(ncode.Store, 7, b, 5)), failed(at(0, with(7, addr)...), e), p, failed(at(1, with(7, addr)...), want), next)
			}
		}
	}
	for _, addr := range []uint64{0, 1, 4096, 4097, 4147, 4150, 4152, 4192, 4208, 4224, 1<<32 + 4148, huge} {
		fails(pinned(), addr, api.ErrExtent)
	}
	fails(pinned(), 4151, api.ErrPointer)
	fails(unpinned(), 4148, api.ErrExtent)
	fails(unpinned(), 4151, api.ErrExtent)
}

// 23.2: Out, with and without pins.
func TestOut(t *testing.T) {
	for a := range 8 {
		for _, v := range []uint64{0, 1, 4148, huge} {
			for _, p := range []place{pinned(), unpinned()} {
				x := ncode.Ins{Op: ncode.Out, A: a, B: 255, C: 7, K: huge}
				p.leads(t, of(x), failed(at(0, with(a, v)...), 5), p, failed(at(1, with(a, v)...), 5), nmach.Event{Kind: nmach.Wrote, Value: v})
			}
		}
	}
}

// 23.2: Error gives the last error to the program, and takes it away.
func TestError(t *testing.T) {
	for a := range 8 {
		for e := api.OK; e <= api.ErrEnd; e++ {
			for _, p := range []place{pinned(), unpinned()} {
				x := ncode.Ins{Op: ncode.Error, A: a, B: 255, C: 7, K: huge}
				p.leads(t, of(x), failed(at(0, with(a, 99)...), e), p, at(1, with(a, uint64(e))...), next)
			}
		}
	}
}

// 23.2: Return leads out of the program, but not with pins.
func TestReturn(t *testing.T) {
	for a := range 8 {
		x := ncode.Ins{Op: ncode.Return, A: a, B: 255, C: 7, K: huge}
		for _, v := range []uint64{0, 1, huge} {
			for _, e := range []api.Errno{api.OK, api.ErrNull} {
				unpinned().leads(t, of(x, x), failed(at(0, with(a, v)...), e), unpinned(), failed(at(1, with(a, v)...), e), nmach.Event{Kind: nmach.Returns, Value: v})
				pinned().leads(t, of(x, x), failed(at(0, with(a, v)...), e), pinned(), failed(at(1, with(a, v)...), api.ErrPinned), next)
			}
		}
	}
}

// 23.2: Upcall leads into managed code, but not with pins. The step itself asks
// neither for the function nor for its parameters.
func TestUpcall(t *testing.T) {
	for a := range 8 {
		for _, b := range []int{0, 1, 8, 255} {
			for _, c := range []int{0, 7} {
				x := ncode.Ins{Op: ncode.Upcall, A: a, B: b, C: c, K: huge}
				for _, e := range []api.Errno{api.OK, api.ErrNull} {
					unpinned().leads(t, of(x, x), failed(at(0, with(a, 9)...), e), unpinned(), failed(at(1, with(a, 9)...), e), nmach.Event{Kind: nmach.Calls, Ins: x})
					pinned().leads(t, of(x, x), failed(at(0, with(a, 9)...), e), pinned(), failed(at(1, with(a, 0)...), api.ErrCritical), next)
				}
			}
		}
	}
}

// 23.2: behind the last instruction nothing changes, with and without pins.
func TestEnds(t *testing.T) {
	for _, n := range []int{0, 1, 2, 255, 256} {
		for _, p := range []place{pinned(), unpinned()} {
			f := failed(at(n, with(3, huge)...), api.ErrNull)
			p.leads(t, codetest.Long(n), f, p, f, nmach.Event{Kind: nmach.Ends})
			p.leads(t, codetest.Long(n), at(n), p, at(n), nmach.Event{Kind: nmach.Ends})
		}
	}
}
