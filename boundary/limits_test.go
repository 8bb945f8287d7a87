package boundary_test

import (
	"testing"

	"semispace/api"
	"semispace/boundary"
	"semispace/envtest"
	"semispace/heaptest"
)

// 19.1: as many local handles as a scope may have, and one more. One that is
// deleted makes room for another.
func TestCapacity(t *testing.T) {
	for _, n := range []int{0, 1, 2, 63, 64} {
		x := envtest.Changed(closed(), func(x *api.Env) { x.Locals = api.Locals{Scopes: []api.Scope{{Cap: n, Base: true}}} })
		for i := range n {
			x = done(t, x, request{boundary.NewLocal, global4104, 0, 0}, envtest.Word(api.Local, i, i+1))
		}
		refuses(t, x, request{boundary.NewLocal, global4104, 0, 0}, api.ErrCapacity)
		refuses(t, x, request{boundary.GetRef, weak4112, 0, 0}, api.ErrCapacity)
		if n > 0 {
			x = done(t, x, request{boundary.DeleteLocal, envtest.Word(api.Local, n/2, n/2+1), 0, 0}, 0)
			x = done(t, x, request{boundary.GetRef, weak4112, 0, 0}, envtest.Word(api.Local, n, n+1))
		}
		x = done(t, x, request{boundary.PushScope, 1, 0, 0}, 0)
		done(t, x, request{boundary.GetRef, weak4112, 0, 0}, envtest.Word(api.Local, len(x.Locals.Slots), len(x.Locals.Issued)+1))
	}
}

// 19.1: as many global or weak handles as there may be, and one more.
func TestTableLimits(t *testing.T) {
	for tag, op := range map[int]int{api.Global: boundary.NewGlobal, api.Weak: boundary.NewWeak} {
		x := envtest.Changed(envtest.Ordinary(), func(x *api.Env) { x.Globals, x.Weaks = api.Table{}, api.Table{} })
		for i := range 64 {
			x = done(t, x, request{op, local4106, 0, 0}, envtest.Word(tag, i, 1))
		}
		refuses(t, x, request{op, local4112, 0, 0}, api.ErrFull)
		for _, i := range []int{0, 31, 63} {
			x = done(t, x, request{op + 1, envtest.Word(tag, i, 1), 0, 0}, 0)
			x = done(t, x, request{op, local4112, 0, 0}, envtest.Word(tag, i, 2))
			refuses(t, x, request{op, local4112, 0, 0}, api.ErrFull)
		}
		other := boundary.NewGlobal + boundary.NewWeak - op
		done(t, x, request{other, local4112, 0, 0}, envtest.Word(api.Global+api.Weak-tag, 0, 1))
	}
}

// 19.1: the last generation of an entry.
func TestLastGeneration(t *testing.T) {
	x := envtest.Changed(envtest.Ordinary(), func(x *api.Env) {
		x.Globals.Entries = []api.Entry{envtest.Dead(envtest.MaxGen - 1)}
		x.Weaks.Entries = []api.Entry{envtest.Dead(envtest.MaxGen - 1)}
	})
	for tag, op := range map[int]int{api.Global: boundary.NewGlobal, api.Weak: boundary.NewWeak} {
		last := envtest.Word(tag, 0, envtest.MaxGen)
		x := done(t, x, request{op, local4106, 0, 0}, last)
		done(t, x, request{boundary.Same, last, local4106, 0}, 1)
		x = done(t, x, request{op + 1, last, 0, 0}, 0)
		done(t, x, request{op, local4106, 0, 0}, envtest.Word(tag, 1, 1))
		refuses(t, x, request{boundary.Length, last, 0, 0}, api.ErrDeleted)
	}
}

// 19.1: as many pins as there may be.
func TestPinLimits(t *testing.T) {
	first, last := envtest.Word(api.Global, 63, envtest.MaxGen), envtest.Word(api.Weak, 0, envtest.MaxGen) // pin 0, and none
	at := heaptest.List(65, true).Addresses()
	x := envtest.FullHouse()
	refuses(t, x, request{boundary.GetCritical, first, 0, 0}, api.ErrFull) // pinned 1000 times
	refuses(t, x, request{boundary.GetCritical, last, 0, 0}, api.ErrFull)  // 64 others are pinned
	refuses(t, x, request{boundary.Release, last, 0, 0}, api.ErrUnpinned)
	x = done(t, x, request{boundary.Release, first, 0, 0}, 0)
	x = done(t, x, request{boundary.GetCritical, first, 0, 0}, at[0]+1)
	x.Heap.Pages[0].Pins -= 999
	x.Pins[0].Count = 1
	x = done(t, x, request{boundary.Release, first, 0, 0}, 0)
	x = done(t, x, request{boundary.GetCritical, last, 0, 0}, at[64]+1)
	refuses(t, x, request{boundary.GetCritical, first, 0, 0}, api.ErrFull)
}

// 19.1: as many pages with pins as there may be. Large objects do not count, nor
// do other objects on the same pages.
func TestCrowded(t *testing.T) {
	x := done(t, envtest.Ordinary(), request{boundary.GetCritical, weak4096, 0, 0}, 4097)
	refuses(t, x, request{boundary.GetCritical, local4179, 0, 0}, api.ErrFull)
	x = done(t, x, request{boundary.GetCritical, local4106, 0, 0}, 4107)
	x = done(t, x, request{boundary.GetCritical, local4112, 0, 0}, 4113)
	x = done(t, x, request{boundary.Release, weak4096, 0, 0}, 0)
	refuses(t, x, request{boundary.GetCritical, local4179, 0, 0}, api.ErrFull)
	x = done(t, x, request{boundary.Release, again4106, 0, 0}, 0)
	x = done(t, x, request{boundary.GetCritical, local4179, 0, 0}, 4180)
	refuses(t, x, request{boundary.GetCritical, global4104, 0, 0}, api.ErrFull)
}

// 19.1 and R1: results with everything at its limit.
func TestFullHouse(t *testing.T) {
	x := envtest.FullHouse()
	h, weak := envtest.Word(api.Local, 4095, 4096), envtest.Word(api.Weak, 63, envtest.MaxGen)
	done(t, x, request{boundary.Same, h, envtest.Word(api.Global, 0, envtest.MaxGen), 0}, 1)
	done(t, x, request{boundary.SetRef, h, 0, weak}, 0)
	done(t, x, request{boundary.DeleteLocal, h, 0, 0}, 0)
	for _, y := range []struct {
		op int
		a  uint64
		e  api.Errno
	}{
		{boundary.NewWords, 1, api.ErrCritical}, {boundary.NewLocal, h, api.ErrCapacity}, {boundary.GetRef, h, api.ErrCapacity},
		{boundary.NewGlobal, h, api.ErrFull}, {boundary.NewWeak, h, api.ErrFull}, {boundary.PushScope, 64, api.ErrDepth},
		{boundary.PopScope, h, api.ErrScope}, {boundary.GetCritical, h, api.ErrFull},
	} {
		refuses(t, x, request{y.op, y.a, 0, 0}, y.e)
	}
}

// R5: two calls with the same arguments have the same results.
func TestSameResults(t *testing.T) {
	for op := 1; op <= 20; op++ {
		for _, x := range []api.Env{narrow(), envtest.Ordinary()} {
			r := request{op, 2, 1, 0}
			if op > 3 {
				r.a = envtest.Word(api.Weak, 1, 2)
			}
			out, v, e := calls(t, x, r)
			calls(t, envtest.FullHouse(), r)
			if again, w, f := calls(t, x, r); v != w || e != f || !envtest.Same(out, again) {
				t.Errorf("%v: %d, error %d, %s, and then %d, error %d, %s", r, v, e, show(out), w, f, show(again))
			}
		}
	}
}
