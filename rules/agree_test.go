package rules_test

import (
	"testing"

	"semispace/api"
	"semispace/boundary"
	"semispace/env"
	"semispace/envtest"
	"semispace/heaptest"
	"semispace/pin"
	"semispace/rules"
	"semispace/worldtest"
)

// crowded reports whether a call cannot pin an object only because of the pages
// that have pins: there would be room for another pin.
func crowded(x api.Env, r request) bool {
	ref, _ := env.Resolve(x, r.a)
	return r.op == boundary.GetCritical && len(x.Pins) < 64 && pin.Crowded(x.Heap, ref)
}

// agrees does a call in an environment and checks that the verdict over its
// model is the error of the call, and what it would be if the allocation or the
// pages were otherwise.
func agrees(t *testing.T, x api.Env, w rules.World, r request) (api.Env, api.Errno) {
	t.Helper()
	out, _, e := boundary.Call(x, r.op, r.a, r.b, r.c)
	with, without := e, e
	switch {
	case e == api.OK:
		with = failure(r.op)
	case e == api.ErrMemory || e == api.ErrFull && crowded(x, r):
		without = api.OK
	}
	if got := verdict(t, w, r, true); got != with {
		t.Fatalf("%v, failed: error %d, want %d, with %s", r, got, with, show(w))
	}
	if got := verdict(t, w, r, false); got != without {
		t.Fatalf("%v: error %d, want %d, with %s", r, got, without, show(w))
	}
	return out, e
}

// begin returns an environment with an empty heap and the scope of a native
// frame.
func begin(c api.Conf) api.Env {
	x := envtest.With(api.Heap{Conf: c, Words: make([]uint64, c.PageWords*c.Pages), Pages: make([]api.Page, c.Pages), Bump: -1})
	x.Locals.Scopes = []api.Scope{{Cap: 8, Base: true}}
	return x
}

// 20.3: the verdicts over a model of an environment are the errors of the calls
// in it, for calls one after the other in irregular environments, and in others
// that begin with nothing. The model has its own order of things, and some that
// are no objects any more.
func TestAgrees(t *testing.T) {
	count := envtest.Counts{}
	for seed := range 700 {
		n := heaptest.Numbers(seed + 1)
		x := envtest.Irregular(&n)
		if seed%3 == 0 {
			x = begin(x.Heap.Conf)
		}
		for range 16 {
			op, a, b, c := envtest.SomeCall(&n, x)
			r := request{op, a, b, c}
			out, e := agrees(t, x, worldtest.Scattered(&n, x), r)
			count.Call(op, e)
			if e == api.OK {
				x = out
			}
		}
	}
	if l := count.Seldom(10, append(envtest.Errors(), envtest.Calls(1)...)...); len(l) > 0 {
		t.Errorf("hardly any: %v, of %v", l, count)
	}
}

// 20.3: all calls in the ordinary environment and in one with everything at its
// limit, with all kinds of words.
func TestAgreesOrdinary(t *testing.T) {
	words := []uint64{
		0, cleared, local6, again6, local12, local7, global9, global4, weak5, weak1, weak3, weak7, deleted, stale,
		4, 65, huge, envtest.Word(api.Local, 4095, 4096), envtest.Word(api.Global, 63, envtest.MaxGen), envtest.Word(api.Weak, 0, envtest.MaxGen),
	}
	for _, x := range []api.Env{envtest.Ordinary(), envtest.FullHouse(), envtest.Narrow(), envtest.Empty()} {
		w := worldtest.Of(x)
		for op := 0; op <= 21; op++ {
			for k, a := range words {
				for b := range uint64(4) {
					agrees(t, x, w, request{op, a, b, words[(k*7+op+int(b))%len(words)]})
					if op < 4 || op == boundary.PushScope {
						agrees(t, x, w, request{op, uint64(k), b, 0})
					}
				}
				agrees(t, x, w, request{op, a, words[(k*5+op)%len(words)], a})
			}
		}
	}
}

// 20.3: the ordinary world, in which things have other numbers than in the model
// of its environment, has the same verdicts.
func TestOrdinary(t *testing.T) {
	w, n := worldtest.Ordinary(), heaptest.Numbers(5)
	for range 4000 {
		op, a, b, c := envtest.SomeCall(&n, envtest.Ordinary())
		agrees(t, envtest.Ordinary(), w, request{op, a, b, c})
	}
}

// R5: two calls with the same arguments have the same results, whatever others
// there are between them.
func TestSameVerdicts(t *testing.T) {
	for op := range 22 {
		for _, w := range []rules.World{worldtest.Ordinary(), stuck(), outside()} {
			r := request{op, local6, 1, 0}
			e := verdict(t, w, r, false)
			verdict(t, worldtest.Empty(), r, true)
			if f := verdict(t, w, r, false); e != f {
				t.Errorf("%v: error %d, and then %d", r, e, f)
			}
		}
	}
}
