package boundary_test

import (
	"math"
	"slices"
	"testing"

	"semispace/api"
	"semispace/boundary"
	"semispace/envtest"
	"semispace/heaptest"
)

// 19.1: an environment that is not valid comes first, whatever else is wrong.
func TestCorrupt(t *testing.T) {
	words := []uint64{0, local4106, global4147, weak4096, cleared, deletedLocal, 4, huge}
	for k, x := range envtest.Corrupt() {
		for op := -1; op <= 22; op++ {
			r := request{op, words[(k+op+1)%len(words)], uint64(k % 5), words[k%len(words)]}
			if _, _, e := after(t, x, r); e != api.ErrCorrupt {
				t.Errorf("%v: error %d, with %s", r, e, show(x))
			}
		}
	}
}

// 19.1: numbers that are those of no call, with arguments of calls and others.
func TestNoCall(t *testing.T) {
	for _, x := range []api.Env{roomy(), envtest.Empty(), envtest.FullHouse(), narrow(), closed()} {
		for _, op := range []int{math.MinInt, math.MinInt32, -20, -1, 0, 21, 22, 40, 255, 256 + 4, math.MaxInt32, math.MaxInt} {
			refuses(t, x, request{op, local4106, 1, 1}, api.ErrArg)
			refuses(t, x, request{op, 0, 0, 0}, api.ErrArg)
			refuses(t, x, request{op, 4, huge, 4}, api.ErrArg)
		}
	}
}

// 19.1: the errors of NewRecord, NewRefs and NewWords, in their order: at first
// there are all of them, and then one after the other is put right.
func TestNewErrors(t *testing.T) {
	for _, op := range []int{boundary.NewRecord, boundary.NewRefs, boundary.NewWords} {
		bad, good := request{op, 64, 1 << 32, 0}, request{op, 9, 3, 0}
		x := envtest.With(envtest.NarrowHeap(), 4096, 4099, 4112, 4115, 4119, 4123)
		issuedBut(0)(&x)
		pinned := envtest.Changed(x, func(x *api.Env) {
			x.Pins = []api.Pin{{Ref: 4112, Count: 1}}
			x.Heap = heaptest.WithPins(x.Heap, x.Pins...)
		})
		refuses(t, pinned, bad, api.ErrCritical)
		refuses(t, pinned, good, api.ErrCritical)
		refuses(t, x, bad, api.ErrArg)
		refuses(t, x, good, api.ErrScope)
		x.Locals.Scopes = []api.Scope{{Cap: 0, Base: true}}
		refuses(t, x, bad, api.ErrArg)
		refuses(t, x, good, api.ErrCapacity)
		x.Locals.Scopes[0].Cap = 1
		refuses(t, x, good, api.ErrFull)
		x.Locals.Issued = x.Locals.Issued[1:]
		refuses(t, x, bad, api.ErrArg)
		refuses(t, x, good, api.ErrMemory)
		x.Roots = x.Roots[1:3]
		done(t, x, good, envtest.Word(api.Local, 0, 4096))
	}
}

// asks checks which lengths can be asked for in an empty heap.
func asks(t *testing.T, c api.Conf, op int, pointers, most uint64) {
	t.Helper()
	x := frame(c, 1)
	for n := range uint64(300) {
		r := request{op, n, pointers, huge}
		if n <= most {
			done(t, x, r, envtest.Word(api.Local, 0, 1))
		} else {
			refuses(t, x, r, api.ErrArg)
		}
	}
	for _, n := range []uint64{
		4096, 1<<12 + 1, 1 << 16, 1<<31 - 1, 1 << 31, 1<<31 + 1, 1 << 32, 1<<32 + 1, 1<<63 - 1, 1 << 63, 1<<63 + 1, huge - 1, huge,
	} {
		refuses(t, x, request{op, n, pointers, 0}, api.ErrArg)
	}
}

// 19.1: the lengths of objects, from the first to the last one and beyond.
func TestLengths(t *testing.T) {
	conf := api.Conf{PageWords: 16, Pages: 16}
	for _, op := range []int{boundary.NewRefs, boundary.NewWords} {
		for _, unused := range []uint64{0, 1, 1 << 32, huge} {
			asks(t, conf, op, unused, 63)
		}
		asks(t, api.Conf{PageWords: 20, Pages: 16}, op, 0, 79)
		asks(t, heaptest.Wide, op, 0, 255)
	}
	asks(t, conf, boundary.NewRecord, 0, 32)
	asks(t, heaptest.Wide, boundary.NewRecord, 0, 32)
}

// 19.1: the maps of records, from the first to the last one and beyond.
func TestMaps(t *testing.T) {
	for n := range uint64(33) {
		for _, m := range []uint64{0, 1, 1 << n / 2, 1<<n - 1, 1 << n, 1<<n + 1, 1<<32 - 1, 1 << 32, 1<<32 + 1, 1 << 63, huge} {
			r := request{boundary.NewRecord, n, m, 0}
			if m < 1<<n {
				done(t, frame(heaptest.Wide, 1), r, envtest.Word(api.Local, 0, 1))
			} else {
				refuses(t, frame(heaptest.Wide, 1), r, api.ErrArg)
			}
		}
	}
}

// stuck is envtest.Ordinary, but nothing can be made: its scope and its tables
// are full, as many local handles as there may be have been issued, and no other
// small object may be pinned.
func stuck() api.Env {
	return envtest.Changed(envtest.Changed(envtest.Ordinary(), issuedBut(0)), func(x *api.Env) {
		x.Globals.Entries[0], x.Weaks.Entries[2] = envtest.Live(5, 4102), envtest.Live(2, 4102)
		for len(x.Globals.Entries) < 64 {
			x.Globals.Entries = append(x.Globals.Entries, envtest.Dead(envtest.MaxGen))
		}
		for len(x.Weaks.Entries) < 64 {
			x.Weaks.Entries = append(x.Weaks.Entries, envtest.Dead(envtest.MaxGen))
		}
		x.Pins = append(x.Pins, api.Pin{Ref: 4096, Count: 1})
		x.Heap = heaptest.WithPins(x.Heap, x.Pins...)
	})
}

// objectCalls are the calls that begin with the object of a.
var objectCalls = []int{
	boundary.Length, boundary.Kind, boundary.GetWord, boundary.SetWord, boundary.GetRef, boundary.SetRef,
	boundary.NewGlobal, boundary.NewWeak, boundary.GetCritical, boundary.Release,
}

// 19.1: words that cannot be resolved, and null, come before everything else
// that is wrong.
func TestNoObject(t *testing.T) {
	for _, op := range objectCalls {
		for _, x := range []api.Env{envtest.Ordinary(), roomy(), stuck()} {
			for _, b := range []uint64{0, 3, huge} {
				for w, e := range envtest.Unusable() {
					refuses(t, x, request{op, w, b, staleLocal}, e)
				}
				refuses(t, x, request{op, 0, b, 4}, api.ErrNull)
				refuses(t, x, request{op, cleared, b, 4}, api.ErrNull)
			}
		}
		refuses(t, closed(), request{op, local4106, 0, 4}, api.ErrStale)
		refuses(t, closed(), request{op, 0, 0, 4}, api.ErrNull)
		refuses(t, envtest.Empty(), request{op, local4106, 0, 4}, api.ErrForged)
	}
}

// 19.1: fields that are not there, and then those of the other kind, come before
// all that concerns the value.
func TestFieldErrors(t *testing.T) {
	x := envtest.Ordinary() // whose last scope is full
	for w, n := range map[uint64]uint64{local4106: 3, local4112: 19, global4147: 2, global4104: 0, weak4105: 0, weak4096: 3, weak4102: 1} {
		for op := boundary.GetWord; op <= boundary.SetRef; op++ {
			for _, b := range []uint64{n, n + 1, 32, 255, 1 << 32, 1 << 63, 1<<63 + 1, 1<<64 - 4096, huge} {
				refuses(t, x, request{op, w, b, 4}, api.ErrRange)
				refuses(t, closed(), request{op, global4104, b, staleLocal}, api.ErrRange)
			}
		}
	}
	for _, y := range []struct{ h, i uint64 }{{weak4096, 0}, {weak4096, 2}, {local4106, 0}, {local4112, 18}} {
		refuses(t, x, request{boundary.GetWord, y.h, y.i, 0}, api.ErrKind)
		refuses(t, x, request{boundary.SetWord, y.h, y.i, 4}, api.ErrKind)
		for w, e := range envtest.Unusable() {
			refuses(t, x, request{boundary.SetRef, y.h, y.i, w}, e)
		}
	}
	for _, y := range []struct{ h, i uint64 }{{weak4096, 1}, {global4147, 0}, {global4147, 1}, {weak4102, 0}} {
		refuses(t, x, request{boundary.GetRef, y.h, y.i, 0}, api.ErrKind)
		refuses(t, x, request{boundary.SetRef, y.h, y.i, 0}, api.ErrKind)
		refuses(t, x, request{boundary.SetRef, y.h, y.i, 4}, api.ErrKind)
		refuses(t, x, request{boundary.SetRef, y.h, y.i, staleLocal}, api.ErrKind)
	}
}

// issuedBut lets an environment have issued all local handles but n.
func issuedBut(n int) func(x *api.Env) {
	return func(x *api.Env) {
		x.Locals.Issued = append(x.Locals.Issued, make([]int, 4096-n-len(x.Locals.Issued))...)
	}
}

// noLocals are environments in which there can be no other local handle, by the
// error for it, in most of them with another error at once.
func noLocals() map[api.Errno][]api.Env {
	return map[api.Errno][]api.Env{
		api.ErrScope:    {closed(), envtest.Changed(closed(), issuedBut(0))},
		api.ErrCapacity: {envtest.Ordinary(), stuck()},
		api.ErrFull:     {issuedAll()},
	}
}

// 19.1: GetRef and NewLocal, if there can be no other handle.
func TestNoLocal(t *testing.T) {
	for e, l := range noLocals() {
		for _, x := range l {
			refuses(t, x, request{boundary.GetRef, weak4096, 0, 0}, e)
			refuses(t, x, request{boundary.GetRef, weak4112, 18, 0}, e)
			refuses(t, x, request{boundary.NewLocal, global4147, 0, 0}, e)
			refuses(t, x, request{boundary.NewLocal, weak4105, 0, 0}, e)
			refuses(t, x, request{boundary.NewLocal, 4, 0, 0}, api.ErrForged)
		}
	}
	for w, e := range envtest.Unusable() {
		refuses(t, envtest.Ordinary(), request{boundary.NewLocal, w, 0, 0}, e)
	}
	done(t, envtest.Changed(roomy(), issuedBut(1)), request{boundary.NewLocal, global4104, 0, 0}, envtest.Word(api.Local, 5, 4096))
}

// 19.1: both words of Same are resolved, the first one first.
func TestSameErrors(t *testing.T) {
	for w, e := range envtest.Unusable() {
		for _, other := range []uint64{0, cleared, local4106, 4, staleLocal, deletedGlobal} {
			refuses(t, envtest.Ordinary(), request{boundary.Same, w, other, 0}, e)
		}
		for _, first := range []uint64{0, cleared, local4106, weak4096} {
			refuses(t, envtest.Ordinary(), request{boundary.Same, first, w, 0}, e)
		}
		refuses(t, envtest.Ordinary(), request{boundary.Same, w, w, 0}, e)
	}
}

// 19.1: handles that cannot be deleted: null, those that are no handles any
// more, also with another tag, and those with another tag.
func TestDeleteErrors(t *testing.T) {
	handles := map[int][]uint64{
		boundary.DeleteLocal:  {local4106, again4106, local4112},
		boundary.DeleteGlobal: {global4147, global4104},
		boundary.DeleteWeak:   {weak4105, weak4096, weak4102, cleared},
	}
	for op := range handles {
		refuses(t, envtest.Ordinary(), request{op, 0, local4106, local4106}, api.ErrNull)
		for w, e := range envtest.Unusable() {
			refuses(t, envtest.Ordinary(), request{op, w, 0, 0}, e)
		}
		for other, l := range handles {
			for _, w := range l {
				if other != op {
					refuses(t, envtest.Ordinary(), request{op, w, 0, 0}, api.ErrKind)
				}
			}
		}
	}
}

// 19.1: the errors of PushScope, in their order.
func TestPushErrors(t *testing.T) {
	deep := envtest.Changed(envtest.Ordinary(), func(x *api.Env) {
		x.Locals.Scopes = append(x.Locals.Scopes, slices.Repeat([]api.Scope{{From: 5}}, 61)...)
	})
	for _, a := range []uint64{65, 66, 1 << 32, 1<<32 + 1, 1 << 63, 1<<63 + 1, huge} {
		for _, x := range []api.Env{closed(), deep, roomy()} {
			refuses(t, x, request{boundary.PushScope, a, 0, 0}, api.ErrArg)
		}
	}
	for _, a := range []uint64{0, 1, 64} {
		refuses(t, closed(), request{boundary.PushScope, a, 0, 0}, api.ErrScope)
		refuses(t, deep, request{boundary.PushScope, a, 0, 0}, api.ErrDepth)
		deep.Locals.Scopes = deep.Locals.Scopes[:63]
		x := done(t, deep, request{boundary.PushScope, a, 0, 0}, 0)
		refuses(t, x, request{boundary.PushScope, a, 0, 0}, api.ErrDepth)
		deep.Locals.Scopes = deep.Locals.Scopes[:64]
	}
}

// 19.1: the errors of PopScope, in their order: the word, the scope, and then a
// handle in the scope around it.
func TestPopErrors(t *testing.T) {
	base := envtest.Changed(envtest.Ordinary(), func(x *api.Env) { x.Locals.Scopes[2].Base = true })
	for w, e := range envtest.Unusable() {
		refuses(t, base, request{boundary.PopScope, w, 0, 0}, e)
		refuses(t, roomy(), request{boundary.PopScope, w, 0, 0}, e)
	}
	for _, w := range []uint64{0, cleared, global4147} {
		refuses(t, base, request{boundary.PopScope, w, 0, 0}, api.ErrScope)
		refuses(t, closed(), request{boundary.PopScope, w, 0, 0}, api.ErrScope)
		refuses(t, envtest.Changed(base, issuedBut(0)), request{boundary.PopScope, w, 0, 0}, api.ErrScope)
	}
	refuses(t, closed(), request{boundary.PopScope, local4106, 0, 0}, api.ErrStale)
	full := envtest.Changed(roomy(), func(x *api.Env) { x.Locals.Scopes[1].Cap = 0 })
	for _, w := range []uint64{local4106, local4112, weak4096} {
		refuses(t, full, request{boundary.PopScope, w, 0, 0}, api.ErrCapacity)
		refuses(t, envtest.Changed(full, issuedBut(0)), request{boundary.PopScope, w, 0, 0}, api.ErrCapacity)
		refuses(t, issuedAll(), request{boundary.PopScope, w, 0, 0}, api.ErrFull)
		done(t, envtest.Changed(roomy(), issuedBut(1)), request{boundary.PopScope, w, 0, 0}, envtest.Word(api.Local, 3, 4096))
	}
	done(t, full, request{boundary.PopScope, 0, 0, 0}, 0)
	done(t, full, request{boundary.PopScope, cleared, 0, 0}, 0)
}
