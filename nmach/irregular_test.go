package nmach_test

import (
	"strconv"
	"testing"

	"semispace/api"
	"semispace/boundary"
	"semispace/codetest"
	"semispace/env"
	"semispace/envtest"
	"semispace/heaptest"
	"semispace/ncode"
	"semispace/nmach"
	"semispace/scope"
	"semispace/shadow"
	"semispace/worldtest"
)

// someValue returns a handle, an address in or near the extent of a pinned
// object, or a number.
func someValue(n *heaptest.Numbers, x api.Env) uint64 {
	switch n.Below(5) {
	case 0:
		return uint64(n.Below(4))
	case 1:
		return envtest.SomeWord(n, x)
	case 2:
		return uint64(*n)
	}
	if len(x.Pins) > 0 {
		return x.Pins[n.Below(len(x.Pins))].Ref + uint64(n.Below(5))
	}
	return 4096 + uint64(n.Below(len(x.Heap.Words)))
}

// someIns returns an instruction of a program of size ones, and lets the
// registers that it uses often have values that it can do something with.
func someIns(n *heaptest.Numbers, x api.Env, size int, regs []uint64) ncode.Ins {
	y := ncode.Ins{Op: 1 + n.Below(17), A: n.Below(8), B: n.Below(8), C: n.Below(8), K: uint64(n.Below(size + 1))}
	if n.Below(3) == 0 {
		y.Op = []int{ncode.Load, ncode.Store, ncode.Call, ncode.Call}[n.Below(4)]
	}
	switch y.Op {
	case ncode.Call:
		op, a, b, c := envtest.SomeCall(n, x)
		y.B, y.C = op, n.Below(9-codetest.Arguments(op))
		copy(regs[y.C:], []uint64{a, b, c}[:codetest.Arguments(op)])
	case ncode.Load:
		regs[y.B] = someValue(n, x)
	case ncode.Store:
		regs[y.A] = someValue(n, x)
	}
	if n.Below(20) == 0 {
		y.B, y.C = n.Below(25), n.Below(8)
	}
	return y
}

// someStep returns a program and a frame of it.
func someStep(n *heaptest.Numbers, x api.Env) (ncode.Code, nmach.Frame) {
	c, f := ncode.Code{Args: n.Below(4)}, at(0)
	for i := range f.Regs {
		f.Regs[i] = someValue(n, x)
	}
	size := 1 + n.Below(5)
	for range size {
		c.Ins = append(c.Ins, someIns(n, x, size, f.Regs))
	}
	if f.Pc = size - 1; n.Below(6) == 0 {
		f.Pc = n.Below(size + 1)
	}
	f.Err = []api.Errno{api.OK, api.Errno(n.Below(23))}[n.Below(2)]
	return c, f
}

// someFact returns what need not be true of a step.
func someFact(n *heaptest.Numbers) shadow.Fact {
	return shadow.Fact{Failed: n.Below(3) == 0, Collected: n.Below(3) == 0, Base: uint64(n.Below(9000))}
}

// counts counts a step by its instruction, if it has no error, and by its errors.
func counts[T any](count envtest.Counts, c ncode.Code, f nmach.Frame, r result[T]) {
	switch {
	case r.e != api.OK:
		count["refused "+strconv.Itoa(int(r.e))]++
	case r.v.Kind == nmach.Ends:
		count["ends"]++
	case r.f.Err != api.OK && r.f.Err != f.Err:
		count["error "+strconv.Itoa(int(r.f.Err))]++
	default:
		count["done "+strconv.Itoa(c.Ins[f.Pc].Op)]++
	}
}

// things are the names of what counts counts, for these errors.
func things(errors ...api.Errno) []string {
	l := []string{"ends", "refused " + strconv.Itoa(int(api.ErrCode))}
	for op := ncode.Const; op <= ncode.Return; op++ {
		l = append(l, "done "+strconv.Itoa(op))
	}
	for _, e := range errors {
		l = append(l, "error "+strconv.Itoa(int(e)))
	}
	return l
}

// 23.2 and 23.3: irregular instructions in irregular environments and their
// models.
func TestIrregular(t *testing.T) {
	count, modelCount := envtest.Counts{}, envtest.Counts{}
	for seed := range 350 {
		n := heaptest.Numbers(seed + 1)
		x := envtest.Irregular(&n)
		w := worldtest.Scattered(&n, x)
		for range 30 {
			c, f := someStep(&n, x)
			r := steps(t, real(), x, c, f)
			counts(count, c, f, r)
			fact := r.fact
			if n.Below(2) == 0 {
				fact = someFact(&n)
			}
			counts(modelCount, c, f, steps(t, modelled(fact), w, c, f))
		}
	}
	l := things(
		api.ErrArg, api.ErrRange, api.ErrKind, api.ErrNull, api.ErrForged, api.ErrStale, api.ErrDeleted,
		api.ErrScope, api.ErrPinned, api.ErrUnpinned, api.ErrExtent, api.ErrPointer, api.ErrCritical,
	)
	often(t, count, 5, l...)
	often(t, modelCount, 5, append(l, things(api.ErrMemory)...)...)
}

// spoil changes a program and a frame to something that is often not allowed.
func spoil(n *heaptest.Numbers, c *ncode.Code, f *nmach.Frame) {
	l := codetest.Extremes()
	switch n.Below(6) {
	case 0:
		c.Args = l[n.Below(len(l))]
	case 1, 2:
		codetest.Spoil(n, &c.Ins[n.Below(len(c.Ins))])
	case 3:
		f.Pc = l[n.Below(len(l))]
	case 4:
		f.Regs = make([]uint64, n.Below(11))
	case 5:
		f.Err = api.Errno(l[n.Below(len(l))])
	}
}

// R1: no step panics, and all end, whatever it is given.
func TestStrange(t *testing.T) {
	count := map[api.Errno]int{}
	for seed := range 3000 {
		n := heaptest.Numbers(seed + 1)
		x := envtest.Irregular(&n)
		w := worldtest.Scattered(&n, x)
		c, f := someStep(&n, x)
		for range n.Below(3) {
			spoil(&n, &c, &f)
		}
		if n.Below(2) == 0 {
			envtest.Spoil(&n, &x)
			worldtest.Spoil(&n, &w)
		}
		count[steps(t, real(), x, c, f).e]++
		count[steps(t, modelled(someFact(&n)), w, c, f).e]++
		fetches(t, c, f)
	}
	if min(count[api.OK], count[api.ErrArg], count[api.ErrCorrupt], 2*count[api.ErrCode]) < 100 {
		t.Errorf("hardly any of one kind: %v", count)
	}
}

// both is a native frame in an environment, and one in a world.
type both struct {
	t *testing.T
	*heaptest.Numbers
	place
	f     nmach.Frame
	count envtest.Counts
}

// step executes the next instruction of a program on both sides. Model learns
// from Step only the fact. It returns the event, and whether the program goes on.
func (p *both) step(c ncode.Code) (nmach.Event, bool) {
	p.t.Helper()
	r := after(p.t, real(), p.x, c, p.f)
	q := after(p.t, modelled(r.fact), p.w, c, p.f)
	if r.e != q.e || r.v != q.v || !sameFrame(r.f, q.f) {
		p.t.Fatalf("%v at %v: %v, %v, error %d, and in the model %v, %v, error %d, with %s\nand %s", c, p.f, r.f, r.v, r.e, q.f, q.v, q.e, show(p.x), show(p.w))
	}
	counts(p.count, c, p.f, r)
	if r.e != api.OK {
		return nmach.Event{}, false
	}
	if p.x, p.w, p.f = r.x, q.x, r.f; r.fact.Collected {
		p.count["collected"]++
	}
	return r.v, r.v.Kind != nmach.Returns && r.v.Kind != nmach.Ends
}

// collect does a collection on both sides.
func (p *both) collect() {
	p.t.Helper()
	x, _, e := env.Collect(p.x)
	w, f := shadow.Collect(p.w)
	if e == api.ErrMemory && f == api.OK { // which only happens in environments that no calls have made
		return
	}
	if e != api.OK || f != api.OK {
		p.t.Fatalf("error %d, and in the model %d", e, f)
	}
	p.x, p.w = x, w
}

// frame ends the last native frame and begins another one, which does not know
// what is in the registers of the one before it. Where there is none, one begins.
func (p *both) frame() {
	p.t.Helper()
	x, e := scope.Leave(p.x.Locals)
	w, f := scope.Leave(p.w.Locals)
	if e != f {
		p.t.Fatalf("error %d, and in the model %d", e, f)
	}
	if x, e = scope.Enter(x, 12); e != api.OK {
		p.t.Fatalf("error %d", e)
	}
	w, _ = scope.Enter(w, 12)
	p.x.Locals, p.w.Locals, p.f = x, w, at(0)
}

// release takes a pin back, by a handle that managed code gives to native code.
func (p *both) release() {
	p.t.Helper()
	if len(p.x.Pins) == 0 {
		return
	}
	k := p.Below(len(p.x.Pins))
	x, i, stamp, e := scope.New(p.x.Locals, p.x.Pins[k].Ref)
	w, _, _, _ := scope.New(p.w.Locals, p.w.Marks[k].Id)
	if e != api.OK {
		return
	}
	p.x.Locals, p.w.Locals, p.f.Pc = x, w, 0
	p.f.Regs[7] = local(i, stamp)
	p.step(of(ins(ncode.Call, 6, boundary.Release, 7)))
}

// run executes irregular instructions, each of which comes to know what the one
// before has led to.
func (p *both) run(n int) {
	p.t.Helper()
	for range n {
		switch p.Below(30) {
		case 0:
			p.collect()
		case 1:
			p.frame()
		case 2, 3, 4, 5, 6:
			p.release()
		}
		c := ncode.Code{}
		for range 3 {
			c.Ins = append(c.Ins, someIns(p.Numbers, p.x, 3, p.f.Regs))
		}
		p.f.Pc = 0
		for goesOn, k := true, 0; goesOn && k < 3; k++ {
			_, goesOn = p.step(c)
		}
	}
}

// 23.3: with the facts of the environment, both sides have the same registers,
// errors and events, in environments that begin with nothing.
func TestBothSides(t *testing.T) {
	count := envtest.Counts{}
	for seed := range 100 {
		n := heaptest.Numbers(seed + 1)
		p := both{t: t, Numbers: &n, place: begun(40), f: at(0), count: count}
		p.run(100)
	}
	l := things(
		api.ErrArg, api.ErrRange, api.ErrMemory, api.ErrKind, api.ErrNull, api.ErrForged, api.ErrStale, api.ErrDeleted,
		api.ErrScope, api.ErrCapacity, api.ErrPinned, api.ErrUnpinned, api.ErrExtent, api.ErrPointer, api.ErrCritical,
	)
	often(t, count, 5, append(l, "collected")...)
}

// 23.3: the same in irregular environments.
func TestBothSidesOfIrregular(t *testing.T) {
	count := envtest.Counts{}
	for seed := range 150 {
		n := heaptest.Numbers(seed + 1)
		x := envtest.Irregular(&n)
		p := both{t: t, Numbers: &n, place: place{x, worldtest.Scattered(&n, x)}, f: at(0), count: count}
		p.run(12)
	}
	often(t, count, 8, things(api.ErrKind, api.ErrNull, api.ErrExtent, api.ErrPointer, api.ErrCritical)...)
}

// R5: what a step leads to depends only on its arguments.
func TestStepsAreAlwaysTheSame(t *testing.T) {
	for seed := range 100 {
		n := heaptest.Numbers(seed + 1)
		x := envtest.Irregular(&n)
		c, f := someStep(&n, x)
		isAlwaysTheSame(t, real(), x, c, f)
		isAlwaysTheSame(t, modelled(someFact(&n)), worldtest.Irregular(&n), c, f)
	}
}

func isAlwaysTheSame[T any](t *testing.T, s side[T], x T, c ncode.Code, f nmach.Frame) {
	t.Helper()
	first := after(t, s, x, c, f)
	for range 3 {
		r := after(t, s, x, c, f)
		if !s.same(r.x, first.x) || !sameFrame(r.f, first.f) || r.v != first.v || r.fact != first.fact || r.e != first.e {
			t.Fatalf("%s of %v at %v is not always the same", s.name, c, f)
		}
	}
}
