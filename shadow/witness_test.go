package shadow_test

import (
	"testing"

	"semispace/api"
	"semispace/boundary"
	"semispace/env"
	"semispace/envtest"
	"semispace/shadow"
)

// in is an environment with a heap in this space.
func in(space int) api.Env {
	return envtest.Changed(envtest.Ordinary(), func(x *api.Env) { x.Heap.Space = space })
}

// 21.4: all combinations of calls, errors and spaces. Whether there has been a
// collection, and what the address is, is of no interest with an error.
func TestWitness(t *testing.T) {
	for op := -1; op <= 22; op++ {
		for e := api.OK; e <= api.ErrEnd; e++ {
			for k := range 4 {
				for _, result := range []uint64{0, 1, 4097, huge} {
					want := shadow.Fact{Failed: e == api.ErrMemory || op == boundary.GetCritical && e == api.ErrFull}
					if e == api.OK {
						want.Collected = k == 1 || k == 2
					}
					if e == api.OK && op == boundary.GetCritical {
						want.Base = result
					}
					if f := shadow.Witness(in(k/2), in(k%2), op, result, e); f != want {
						t.Errorf("call %d, error %d, result %d, spaces %d and %d: %v, want %v", op, e, result, k/2, k%2, f, want)
					}
				}
			}
		}
	}
}

// 21.4: an error leaves no environment, so that its space says nothing.
func TestWitnessOfNothing(t *testing.T) {
	for _, e := range []api.Errno{api.ErrMemory, api.ErrFull, api.ErrNull} {
		want := shadow.Fact{Failed: e == api.ErrMemory}
		if f := shadow.Witness(in(1), api.Env{}, boundary.NewWords, 0, e); f != want {
			t.Errorf("error %d: %v, want %v", e, f, want)
		}
	}
	if f := shadow.Witness(api.Env{}, api.Env{}, 0, 0, api.OK); f != (shadow.Fact{}) {
		t.Errorf("%v", f)
	}
}

// witness does a call and checks its fact. The environments must stay as they
// are.
func witness(t *testing.T, x api.Env, r request, want shadow.Fact) api.Env {
	t.Helper()
	out, v, e := boundary.Call(x, r.op, r.a, r.b, r.c)
	before, isBefore := envtest.Guarded(x)
	now, isNow := envtest.Guarded(out)
	if f := shadow.Witness(before, now, r.op, v, e); f != want {
		t.Errorf("%v: %v, error %d, want %v", r, f, e, want)
	}
	if !isBefore() || !isNow() {
		t.Errorf("%v: an environment has been changed", r)
	}
	return out
}

// 21.4: what really happens. Narrow has no room: it has as many pages in use as
// there may be, and much of what is on them is not reachable.
func TestWitnessed(t *testing.T) {
	x := envtest.Changed(envtest.Narrow(), func(x *api.Env) { x.Locals.Scopes[0].Cap = 8 })
	witness(t, x, request{op: boundary.NewWords}, shadow.Fact{})
	witness(t, x, request{op: boundary.NewWords, a: 3}, shadow.Fact{Collected: true})
	witness(t, x, request{op: boundary.NewWords, a: 31}, shadow.Fact{Failed: true})
	witness(t, x, request{op: boundary.NewWords, a: 64}, shadow.Fact{})
	h := envtest.Word(api.Local, 1, 2)
	witness(t, x, request{op: boundary.Length, a: h}, shadow.Fact{})
	y := witness(t, x, request{op: boundary.GetCritical, a: h}, shadow.Fact{Base: 4116})
	witness(t, y, request{op: boundary.GetCritical, a: h}, shadow.Fact{Base: 4116})
	witness(t, y, request{op: boundary.NewWords, a: 3}, shadow.Fact{}) // ErrCritical
	witness(t, y, request{op: boundary.Release, a: h}, shadow.Fact{})
	full := envtest.FullHouse()
	h = envtest.Word(api.Local, 4095, 4096)
	witness(t, full, request{op: boundary.GetCritical, a: h}, shadow.Fact{Failed: true})
	witness(t, full, request{op: boundary.NewGlobal, a: h}, shadow.Fact{}) // ErrFull, too
	if z, _, e := env.Collect(x); e != api.OK || shadow.Witness(x, z, 0, 0, e) != (shadow.Fact{Collected: true}) {
		t.Errorf("error %d", e)
	}
}
