package nmach_test

import (
	"slices"
	"testing"

	"semispace/api"
	"semispace/boundary"
	"semispace/codetest"
	"semispace/env"
	"semispace/envtest"
	"semispace/ncode"
	"semispace/nmach"
	"semispace/scope"
	"semispace/shadow"
	"semispace/worldtest"
)

// local is the handle with this index and stamp.
func local(i, stamp int) uint64 { return envtest.Word(api.Local, i, stamp) }

// begun is an environment with a native frame and nothing else, and its model.
func begun(limit int) place {
	p := place{envtest.Empty(), worldtest.Empty()}
	p.x.Locals.Scopes = []api.Scope{{Cap: limit, Base: true}}
	p.w.Locals.Scopes = []api.Scope{{Cap: limit, Base: true}}
	return p
}

// calls does a boundary call as the second instruction of a program, with these
// registers from 4 on, on both sides. It checks the fact, and what the call
// leads to: a value, and the error that the program can ask for.
func (p *place) calls(t *testing.T, op int, args []uint64, fact shadow.Fact, want uint64, wantError api.Errno) {
	t.Helper()
	c := of(set(1, 2), ncode.Ins{Op: ncode.Call, A: 2, B: op, C: 4, K: huge}, set(1, 2))
	before := append([]uint64{10, 11, 12, 13}, args...)
	after := slices.Clone(regs(before...))
	after[2] = want
	for _, old := range []api.Errno{api.ErrEnd, api.OK} {
		f, g := failed(at(1, before...), old), failed(at(2, after...), old)
		if wantError != api.OK {
			g.Err = wantError
		}
		r, q := steps(t, real(), p.x, c, f), steps(t, modelled(fact), p.w, c, f)
		if r.e != api.OK || r.v != next || r.fact != fact || !sameFrame(r.f, g) {
			t.Fatalf("Step of call %d with %v: %v, %v, %v, error %d, want %v, %v", op, args, r.f, r.v, r.fact, r.e, g, fact)
		}
		if q.e != api.OK || q.v != next || !sameFrame(q.f, g) {
			t.Fatalf("Model of call %d with %v: %v, %v, error %d, want %v", op, args, q.f, q.v, q.e, g)
		}
		if wantError != api.OK && (!envtest.Same(r.x, p.x) || !worldtest.Same(q.x, p.w)) {
			t.Fatalf("call %d with %v changes %s\nto %s, or to %s", op, args, show(p.x), show(r.x), show(q.x))
		}
		if old == api.OK {
			p.x, p.w = r.x, q.x
		}
	}
}

// 23.2: all calls, with their results, errors and facts, one after the other.
func TestCalls(t *testing.T) {
	p := begun(7)
	l := func(v ...uint64) []uint64 { return v }
	none := shadow.Fact{}
	record, words := local(0, 1), local(1, 2)
	p.calls(t, boundary.NewRecord, l(2, 2, huge), none, record, api.OK)
	p.calls(t, boundary.NewWords, l(3, huge), none, words, api.OK)
	p.calls(t, boundary.NewRefs, l(2), none, local(2, 3), api.OK)
	p.calls(t, boundary.NewRefs, l(1<<32), none, 0, api.ErrArg)
	p.calls(t, boundary.Length, l(words), none, 3, api.OK)
	p.calls(t, boundary.Kind, l(words, 9), none, api.Words, api.OK)
	p.calls(t, boundary.Kind, l(words+4), none, 0, api.ErrForged)
	p.calls(t, boundary.SetWord, l(words, 2, huge), none, 0, api.OK)
	p.calls(t, boundary.GetWord, l(words, 2, 7), none, huge, api.OK)
	p.calls(t, boundary.GetWord, l(words, 3), none, 0, api.ErrRange)
	p.calls(t, boundary.SetRef, l(record, 1, words), none, 0, api.OK)
	p.calls(t, boundary.SetRef, l(record, 0, words), none, 0, api.ErrKind)
	p.calls(t, boundary.GetRef, l(record, 1), none, local(3, 4), api.OK)
	p.calls(t, boundary.Same, l(words, local(3, 4)), none, 1, api.OK)
	p.calls(t, boundary.Same, l(words, record), none, 0, api.OK)
	p.calls(t, boundary.NewLocal, l(record), none, local(4, 5), api.OK)
	p.calls(t, boundary.DeleteLocal, l(local(2, 3)), none, 0, api.OK)
	p.calls(t, boundary.Length, l(local(2, 3)), none, 0, api.ErrDeleted)
	p.calls(t, boundary.NewGlobal, l(record), none, envtest.Word(api.Global, 0, 1), api.OK)
	p.calls(t, boundary.NewWeak, l(words), none, envtest.Word(api.Weak, 0, 1), api.OK)
	p.calls(t, boundary.DeleteGlobal, l(envtest.Word(api.Global, 0, 1)), none, 0, api.OK)
	p.calls(t, boundary.DeleteWeak, l(envtest.Word(api.Weak, 0, 1)), none, 0, api.OK)
	p.calls(t, boundary.PushScope, l(1), none, 0, api.OK)
	p.calls(t, boundary.NewLocal, l(words), none, local(5, 6), api.OK)
	p.calls(t, boundary.NewLocal, l(words), none, 0, api.ErrCapacity)
	p.calls(t, boundary.PopScope, l(local(5, 6)), none, local(5, 7), api.OK)
	p.calls(t, boundary.PopScope, l(0), none, 0, api.ErrScope)
	p.calls(t, boundary.GetCritical, l(words), shadow.Fact{Base: 4100}, 4100, api.OK)
	p.calls(t, boundary.GetCritical, l(words), shadow.Fact{Base: 4100}, 4100, api.OK)
	p.calls(t, boundary.NewWords, l(1), none, 0, api.ErrCritical)
	p.calls(t, boundary.GetCritical, l(0), none, 0, api.ErrNull)
	p.calls(t, boundary.Release, l(local(5, 7)), none, 0, api.OK)
	p.calls(t, boundary.Release, l(words), none, 0, api.OK)
	p.calls(t, boundary.Release, l(words), none, 0, api.ErrUnpinned)
}

// 23.2: a Call of no boundary call has no arguments, so that each C will do.
func TestNoCall(t *testing.T) {
	p := begun(2)
	for _, op := range []int{0, 21, 22, 40, 127, 128, 254, 255} {
		p.calls(t, op, []uint64{1, 2, 3}, noFact, 0, api.ErrArg)
		for c := range 8 {
			p.leads(t, of(ins(ncode.Call, 7, op, c)), at(0, with(7, 9)...), p, failed(at(1, with(7, 0)...), api.ErrArg), next)
		}
	}
}

// 23.2: the fact of an allocation for which there is no room, at first or at all,
// and of an object that cannot be pinned.
func TestFacts(t *testing.T) {
	room := func(x *api.Env) { x.Locals.Scopes[0].Cap = 8 }
	full := place{envtest.Changed(envtest.Narrow(), room), worldtest.Of(envtest.Changed(envtest.Narrow(), room))}
	p := full
	p.calls(t, boundary.NewWords, []uint64{0}, noFact, local(2, 3), api.OK)
	p = full
	p.calls(t, boundary.NewWords, []uint64{3}, shadow.Fact{Collected: true}, local(2, 3), api.OK)
	if l := p.x.Weaks.Entries; l[0].Ref != 0 || l[1].Ref == 0 || p.w.Weaks.Entries[0].Ref != 0 || p.w.Weaks.Entries[1].Ref == 0 {
		t.Errorf("weak handles %v, and in the model %v", l, p.w.Weaks.Entries)
	}
	p = full
	p.calls(t, boundary.NewWords, []uint64{31}, shadow.Fact{Failed: true}, 0, api.ErrMemory)
	p = place{envtest.FullHouse(), worldtest.Of(envtest.FullHouse())}
	last := local(4095, 4096)
	p.calls(t, boundary.GetCritical, []uint64{last}, shadow.Fact{Failed: true}, 0, api.ErrFull)
	p.calls(t, boundary.NewGlobal, []uint64{last}, noFact, 0, api.ErrFull)
}

// 23.3: Model believes the fact of a boundary call, and has no use for it in
// other steps.
func TestModelBelievesFacts(t *testing.T) {
	w := begun(4).w
	c := of(ins(ncode.Call, 2, boundary.NewWords, 0))
	if r := steps(t, modelled(shadow.Fact{Failed: true, Collected: true, Base: 4097}), w, c, at(0, 1)); r.f.Err != api.ErrMemory {
		t.Errorf("%v", r.f)
	}
	r := steps(t, modelled(shadow.Fact{Base: 4097}), w, c, at(0, 1))
	if r.f.Err != api.OK || r.f.Regs[2] != local(0, 1) {
		t.Errorf("%v", r.f)
	}
	for _, base := range []uint64{0, 77, 4097, huge} {
		q := steps(t, modelled(shadow.Fact{Base: base}), r.x, of(ins(ncode.Call, 3, boundary.GetCritical, 2)), at(0, r.f.Regs...))
		if q.f.Regs[3] != base || len(q.x.Marks) != 1 || q.x.Marks[0].Base != base {
			t.Errorf("%v, marks %v", q.f, q.x.Marks)
		}
	}
	for _, fact := range []shadow.Fact{{Failed: true}, {Collected: true}, {Base: 5}, {Failed: true, Collected: true, Base: huge}} {
		for op := ncode.Const; op <= ncode.Return; op++ {
			f, y := at(0, 4148, 4149, 1), of(ncode.Ins{Op: op, A: 0, B: 1, C: 2, K: 1})
			if op == ncode.Call {
				y.Ins[0].B = boundary.Same
			}
			q, without := steps(t, modelled(fact), pinned().w, y, f), steps(t, modelled(noFact), pinned().w, y, f)
			if !worldtest.Same(q.x, without.x) || !sameFrame(q.f, without.f) || q.v != without.v || q.e != without.e {
				t.Errorf("with %v, %v becomes %v, %s, and without %v, %s", fact, y, q.f, show(q.x), without.f, show(without.x))
			}
		}
	}
}

// 23.2: the arguments are in the registers from C on, up to the last one, and
// the others are 0; the result can replace one of them.
func TestCallRegisters(t *testing.T) {
	p := begun(64)
	p.calls(t, boundary.NewWords, []uint64{3}, noFact, local(0, 1), api.OK)
	for op := boundary.NewRecord; op <= boundary.Release; op++ {
		for c := range 9 - codetest.Arguments(op) {
			for a := range 8 {
				l := with(7, huge)
				copy(l[c:], []uint64{local(0, 1), 1, 2}[:codetest.Arguments(op)])
				f := at(0, l...)
				steps(t, real(), p.x, of(ins(ncode.Call, a, op, c)), f)
				steps(t, modelled(shadow.Fact{Base: 4097}), p.w, of(ins(ncode.Call, a, op, c)), f)
			}
		}
	}
	for c := range 6 {
		l := with(7, 0)
		copy(l[c:], []uint64{local(0, 1), 1, 44})
		r := steps(t, real(), p.x, of(ins(ncode.Call, c, boundary.SetWord, c)), at(0, l...))
		if r.f.Err != api.OK || r.f.Regs[c] != 0 || r.x.Heap.Words[2] != 44 {
			t.Errorf("arguments from %d on: %v", c, r.f)
		}
	}
}

// 23.2: calls and raw accesses after a collection has moved an object.
func TestCallsAfterCollections(t *testing.T) {
	p := begun(8)
	p.calls(t, boundary.NewWords, []uint64{3}, noFact, local(0, 1), api.OK)
	p.calls(t, boundary.SetWord, []uint64{local(0, 1), 0, 9}, noFact, 0, api.OK)
	x, _, e := env.Collect(p.x)
	if e != api.OK || envtest.Same(x, p.x) {
		t.Fatalf("error %d, and %s becomes %s", e, show(p.x), show(x))
	}
	p.x = x
	p.calls(t, boundary.GetWord, []uint64{local(0, 1), 0}, noFact, 9, api.OK)
	p.calls(t, boundary.GetCritical, []uint64{local(0, 1)}, shadow.Fact{Base: 4113}, 4113, api.OK)
	for _, a := range []struct {
		ins ncode.Ins
		f   nmach.Frame
		v   uint64
	}{
		{ins(ncode.Load, 3, 2, 0), at(0, 1, 1, 4113), 9},
		{ins(ncode.Load, 3, 2, 0), at(0, 1, 1, 4115), 0},
	} {
		p.leads(t, of(a.ins), a.f, p, at(1, 1, 1, a.f.Regs[2], a.v), next)
	}
}

// 23.2: calls after the scope of the native frame has been left.
func TestCallsWithoutScope(t *testing.T) {
	p := begun(2)
	p.calls(t, boundary.NewWords, []uint64{3}, noFact, local(0, 1), api.OK)
	x, e := scope.Leave(p.x.Locals)
	w, f := scope.Leave(p.w.Locals)
	if e != api.OK || f != api.OK {
		t.Fatal(e, f)
	}
	p.x.Locals, p.w.Locals = x, w
	p.calls(t, boundary.Length, []uint64{local(0, 1)}, noFact, 0, api.ErrStale)
	p.calls(t, boundary.NewWords, []uint64{3}, noFact, 0, api.ErrScope)
}
