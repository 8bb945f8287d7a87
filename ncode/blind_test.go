package ncode_test

import (
	"slices"
	"testing"

	"semispace/api"
	"semispace/boundary"
	"semispace/codetest"
	"semispace/env"
	"semispace/envtest"
	"semispace/heaptest"
	"semispace/ncode"
	"semispace/pin"
	"semispace/scope"
)

// runner runs a native program in an environment, as chapter 23 says.
type runner struct {
	t     *testing.T
	code  ncode.Code
	x     api.Env
	pc    int
	regs  [8]uint64
	err   api.Errno
	seen  []uint64 // what the program has written or given to managed functions
	ended bool
	lost  bool // something has happened after which nothing is promised
	count envtest.Counts
}

// must ends the test if there is an error.
func (p *runner) must(e api.Errno) {
	p.t.Helper()
	if e != api.OK {
		p.t.Fatalf("error %d", e)
	}
}

// call does a boundary call for which nothing fails.
func (p *runner) call(op int, a, b, c uint64) uint64 {
	p.t.Helper()
	x, v, e := boundary.Call(p.x, op, a, b, c)
	p.must(e)
	p.x = x
	return v
}

// begin makes an environment in which other objects come first, of so many
// words, and then three objects whose handles are the arguments of the program.
func (p *runner) begin(others ...int) {
	p.t.Helper()
	var e api.Errno
	p.x, e = env.New(api.Conf{PageWords: 16, Pages: 12 + 3*len(others)})
	p.must(e)
	for _, n := range others {
		p.x, _, e = env.Alloc(p.x, api.Header{Kind: api.Words, Length: n})
		p.must(e)
	}
	p.x.Locals, e = scope.Enter(p.x.Locals, 32)
	p.must(e)
	p.regs = [8]uint64{p.call(boundary.NewRecord, 3, 2, 0), p.call(boundary.NewWords, 3, 0, 0), p.call(boundary.NewWords, 10, 0, 0)}
	p.call(boundary.SetRef, p.regs[0], 1, p.regs[1])
	for i := range uint64(3) {
		p.call(boundary.SetWord, p.regs[1], i, i+1)
	}
}

// step executes an instruction.
func (p *runner) step() {
	p.t.Helper()
	if p.pc == len(p.code.Ins) {
		p.ended = true
		return
	}
	x := p.code.Ins[p.pc]
	p.pc++
	a, b, c := &p.regs[x.A], p.regs[x.B%8], p.regs[x.C]
	switch x.Op {
	case ncode.Const:
		*a = x.K
	case ncode.Jump:
		p.pc = int(x.K)
	case ncode.JumpIf:
		if *a != 0 {
			p.pc = int(x.K)
		}
	case ncode.Load:
		v, e := pin.Load(p.x.Heap, p.x.Pins, b)
		*a = v
		p.fails("load", e)
	case ncode.Store:
		h, e := pin.Store(p.x.Heap, p.x.Pins, *a, b)
		if p.fails("store", e); e == api.OK {
			p.x.Heap = h
		}
	case ncode.Call:
		*a = p.doCall(x)
	case ncode.Upcall:
		*a = p.upcall(x)
	case ncode.Out:
		p.seen = append(p.seen, *a)
	case ncode.Error:
		*a, p.err = uint64(p.err), api.OK
	case ncode.Return:
		p.seen, p.ended = append(p.seen, *a), true
	default:
		*a = computed(x.Op, b, c)
	}
}

// computed is the result of an instruction that only registers matter to.
func computed(op int, b, c uint64) uint64 {
	holds := op == ncode.Less && b < c || op == ncode.Equal && b == c
	switch {
	case op == ncode.Move:
		return b
	case op == ncode.Add:
		return b + c
	case op == ncode.Sub:
		return b - c
	case op == ncode.Mul:
		return b * c
	case op == ncode.And:
		return b & c
	case holds:
		return 1
	}
	return 0
}

// fails remembers an error, if there is one.
func (p *runner) fails(what string, e api.Errno) {
	if p.count[what]++; e != api.OK {
		p.count[what+", failed"]++
		p.err = e
	}
}

// doCall does a boundary call of the program.
func (p *runner) doCall(x ncode.Ins) uint64 {
	var l [3]uint64
	copy(l[:], p.regs[x.C:x.C+codetest.Arguments(x.B)])
	y, v, e := boundary.Call(p.x, x.B, l[0], l[1], l[2])
	switch p.fails("call", e); {
	case e == api.OK:
		p.x = y
		p.lost = len(p.x.Pins) > 1
	case e == api.ErrMemory || x.B == boundary.GetCritical:
		p.lost = true
	}
	if x.B == boundary.GetCritical && e == api.OK {
		p.count["pinned"]++
	}
	return v
}

// upcall calls a managed function that collects, if it may.
func (p *runner) upcall(x ncode.Ins) uint64 {
	if len(p.x.Pins) > 0 {
		p.err = api.ErrCritical
		return 0
	}
	p.seen = append(p.seen, p.regs[x.C:]...)
	p.collect()
	return 7
}

// collect does a collection.
func (p *runner) collect() {
	p.t.Helper()
	x, _, e := env.Collect(p.x)
	p.must(e)
	p.x = x
}

// pair begins to run a program in an environment and in another one, where
// objects are in other places.
func pair(t *testing.T, c ncode.Code, count envtest.Counts) (one, two *runner) {
	t.Helper()
	one = &runner{t: t, code: c, count: count}
	two = &runner{t: t, code: c, count: envtest.Counts{}}
	one.begin()
	two.begin(5, 3, 10)
	two.collect()
	return one, two
}

// sees runs a program in two environments, in one of which places change before
// each instruction. It reports whether the program can tell which one it is in.
func sees(t *testing.T, c ncode.Code, count envtest.Counts) bool {
	t.Helper()
	one, two := pair(t, c, count)
	for range 60 {
		one.step()
		two.step()
		if one.lost || two.lost {
			count["lost"]++
			return false
		}
		if one.pc != two.pc || one.err != two.err || one.ended != two.ended || !slices.Equal(one.seen, two.seen) {
			return true
		}
		if one.regs != two.regs {
			count["different addresses"]++
		}
		if one.ended {
			break
		}
		two.collect()
	}
	count["written"] += len(one.seen)
	return false
}

// usesWeak reports whether a program has weak handles, by which it can see
// collections.
func usesWeak(c ncode.Code) bool {
	return slices.ContainsFunc(c.Ins, func(x ncode.Ins) bool { return x.Op == ncode.Call && x.B == boundary.NewWeak })
}

// 22.5: a safe program cannot see where objects are, as long as it pins at most
// one at a time and nothing that it asks for fails.
func TestSafeProgramsAreBlind(t *testing.T) {
	x := heaptest.Numbers(225)
	count := envtest.Counts{}
	for range 500 {
		c := grow(&x, 30, func(c ncode.Code) bool { return ncode.Safe(c) && !usesWeak(c) })
		if sees(t, c, count) {
			t.Fatalf("%v sees where objects are", c)
		}
	}
	if l := count.Seldom(100, "call", "call, failed", "load", "store", "pinned", "written", "different addresses"); len(l) > 0 {
		t.Errorf("hardly any: %v, of %v", l, count)
	}
}

// between is a number that only one of the addresses of the words is less than,
// in the two environments of sees.
func between(t *testing.T) uint64 {
	t.Helper()
	one, two := pair(t, of(), nil)
	return min(one.call(boundary.GetCritical, one.regs[1], 0, 0), two.call(boundary.GetCritical, two.regs[1], 0, 0)) + 1
}

// 22.5: programs that use an address in each way that is allowed.
func TestWhatSafeProgramsDoWithAddresses(t *testing.T) {
	one := ncode.Ins{Op: ncode.Const, A: 6, K: 1}
	good := []ncode.Code{
		of(getCritical(3, 1), one, ins(ncode.Add, 4, 3, 6), ins(ncode.Load, 5, 4, 0), out(5), ins(ncode.Sub, 5, 4, 3), out(5)),
		of(getCritical(3, 1), one, ins(ncode.Add, 4, 6, 3), ins(ncode.Store, 4, 6, 0), ins(ncode.Load, 5, 4, 0), out(5), release(7, 1)),
		of(getCritical(3, 1), one, ins(ncode.Sub, 4, 3, 6), ins(ncode.Equal, 5, 3, 4), out(5), ins(ncode.Load, 5, 4, 0), ins(ncode.Error, 5, 0, 0), out(5)),
		of(getCritical(3, 1), release(7, 1), getCritical(3, 2), ins(ncode.Equal, 5, 3, 3), out(5), release(7, 2), out(7)),
		of(getCritical(3, 1), move(4, 3), release(7, 1), getCritical(3, 2), ins(ncode.Load, 5, 3, 0), out(5)),
	}
	for _, c := range good {
		if !safe(t, c) || sees(t, c, envtest.Counts{}) {
			t.Errorf("%v is not safe or not blind", c)
		}
	}
	bad := []ncode.Code{
		of(getCritical(3, 1), out(3)),
		of(getCritical(3, 1), one, ins(ncode.And, 4, 3, 6), ins(ncode.Mul, 4, 3, 6), out(4)),
		of(getCritical(3, 1), ncode.Ins{Op: ncode.Const, A: 6, K: between(t)}, ins(ncode.Less, 4, 3, 6), out(4)),
		of(getCritical(3, 1), move(4, 3), release(7, 1), getCritical(3, 2), ins(ncode.Sub, 4, 3, 4), out(4)),
		of(getCritical(3, 1), release(7, 1), ins(ncode.Upcall, 0, 0, 3)),
	}
	for _, c := range bad {
		if safe(t, c) || !sees(t, c, envtest.Counts{}) {
			t.Errorf("%v is safe or blind", c)
		}
	}
}
