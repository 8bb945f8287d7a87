package boundary_test

import (
	"testing"

	"semispace/api"
	"semispace/boundary"
	"semispace/envtest"
	"semispace/heaptest"
)

const huge = 1<<64 - 1

// The handles of envtest.Ordinary, by the objects that they refer to.
var (
	local4106  = envtest.Word(api.Local, 0, 1)
	again4106  = envtest.Word(api.Local, 4, 7)
	local4179  = envtest.Word(api.Local, 2, 3)
	local4112  = envtest.Word(api.Local, 3, 6)
	global4147 = envtest.Word(api.Global, 1, 1)
	global4104 = envtest.Word(api.Global, 3, 7)
	weak4105   = envtest.Word(api.Weak, 0, 1)
	weak4096   = envtest.Word(api.Weak, 1, 2)
	weak4102   = envtest.Word(api.Weak, 4, envtest.MaxGen)
	weak4112   = envtest.Word(api.Weak, 5, 1)
	cleared    = envtest.Word(api.Weak, 3, 3)
)

// The handles of envtest.Ordinary that cannot be used any more.
var (
	deletedLocal  = envtest.Word(api.Local, 1, 2)
	staleLocal    = envtest.Word(api.Local, 3, 4)
	deletedGlobal = envtest.Word(api.Global, 0, 4)
)

// next is the next local handle that envtest.Ordinary issues.
var next = envtest.Word(api.Local, 5, 8)

// roomy is envtest.Ordinary with room for more handles in its last scope.
func roomy() api.Env {
	return envtest.Changed(envtest.Ordinary(), func(x *api.Env) { x.Locals.Scopes[2].Cap = 64 })
}

// frame is an environment with an empty heap and the scope of a native frame,
// with room for n handles.
func frame(c api.Conf, n int) api.Env {
	h := api.Heap{Conf: c, Words: make([]uint64, c.PageWords*c.Pages), Pages: make([]api.Page, c.Pages), Bump: -1}
	return api.Env{Heap: h, Locals: api.Locals{Scopes: []api.Scope{{Cap: n, Base: true}}}}
}

// adds appends a slot, the next one of envtest.Ordinary.
func adds(ref uint64) func(x *api.Env) {
	return func(x *api.Env) {
		x.Locals.Slots = append(x.Locals.Slots, api.Slot{Stamp: 8, Ref: ref, Live: true})
		x.Locals.Issued = append(x.Locals.Issued, 5)
	}
}

// The numbers of the calls.
func TestConstants(t *testing.T) {
	for k, op := range []int{
		boundary.NewRecord, boundary.NewRefs, boundary.NewWords, boundary.Length, boundary.Kind,
		boundary.GetWord, boundary.SetWord, boundary.GetRef, boundary.SetRef, boundary.Same,
		boundary.NewLocal, boundary.DeleteLocal, boundary.NewGlobal, boundary.DeleteGlobal, boundary.NewWeak,
		boundary.DeleteWeak, boundary.PushScope, boundary.PopScope, boundary.GetCritical, boundary.Release,
	} {
		if op != k+1 {
			t.Errorf("%d, want %d", op, k+1)
		}
	}
}

// The examples of chapter 19.
func TestExamples(t *testing.T) {
	refuses(t, envtest.Empty(), request{boundary.NewWords, 3, 0, 0}, api.ErrScope)
	refuses(t, roomy(), request{boundary.Length, 4096, 0, 0}, api.ErrForged)
	refuses(t, roomy(), request{boundary.NewRefs, 3, 0, 0}, api.ErrCritical)
	refuses(t, roomy(), request{boundary.DeleteGlobal, local4106, 0, 0}, api.ErrKind)
}

// 19.1: a new object has fields 0, and the handle is that of the next stamp.
func TestNew(t *testing.T) {
	for _, y := range []struct {
		r     request
		first uint64 // the header
	}{
		{request{boundary.NewRecord, 3, 5, 0}, 1 + 1<<2 + 3<<4 + 5<<16},
		{request{boundary.NewRecord, 0, 0, 9}, 1 + 1<<2},
		{request{boundary.NewRefs, 2, 9, 9}, 1 + 2<<2 + 2<<4},
		{request{boundary.NewRefs, 0, huge, huge}, 1 + 2<<2},
		{request{boundary.NewWords, 3, 1 << 32, 9}, 1 + 3<<2 + 3<<4},
		{request{boundary.NewWords, 0, 9, 9}, 1 + 3<<2},
	} {
		used := 1 + int(y.r.a)
		becomes(t, frame(heaptest.Conf, 1), y.r, envtest.Word(api.Local, 0, 1), func(x *api.Env) {
			x.Heap.Words[0], x.Heap.Bump = y.first, 0
			x.Heap.Pages[0] = api.Page{Kind: api.SmallPage, Used: used}
			x.Locals.Slots = []api.Slot{{Stamp: 1, Ref: 4096, Live: true}}
			x.Locals.Issued = []int{0}
		})
	}
}

// narrow is envtest.Narrow with room for another local handle.
func narrow() api.Env {
	return envtest.Changed(envtest.Narrow(), func(x *api.Env) { x.Locals.Scopes[0].Cap = 2 })
}

// 19.1: with room, no other object moves, and no handle is cleared.
func TestNewWithRoom(t *testing.T) {
	becomes(t, narrow(), request{boundary.NewRefs, 0, 0, 0}, envtest.Word(api.Local, 2, 3), func(x *api.Env) {
		x.Heap.Words[31], x.Heap.Pages[1].Used = 1+2<<2, 16
		x.Locals.Slots = append(x.Locals.Slots, api.Slot{Stamp: 3, Ref: 4127, Live: true})
		x.Locals.Issued = append(x.Locals.Issued, 2)
	})
}

// 19.1: without room, the objects of all handles move, and the new one comes
// behind them.
func TestNewCollects(t *testing.T) {
	h := envtest.Word(api.Local, 2, 3)
	x := becomes(t, narrow(), request{boundary.NewRecord, 2, 1, 0}, h, func(x *api.Env) {
		clear(x.Heap.Words[:32])
		copy(x.Heap.Words[32:], []uint64{
			1 + 2<<2 + 2<<4, 4135, 0, // what was at 4096
			1 + 3<<2 + 3<<4, 1, 2, 3, // at 4115
			1 + 3<<2 + 2<<4, 8, 9, // at 4112
			1 + 1<<2 + 2<<4 + 1<<16, 0, 0, // the new one
		})
		x.Heap.Pages = make([]api.Page, 8)
		x.Heap.Pages[2] = api.Page{Kind: api.SmallPage, Space: 1, Used: 13}
		x.Heap.Space, x.Heap.Bump = 1, 2
		x.Roots[0], x.Globals.Entries[0].Ref = 4128, 4135
		x.Locals.Slots = []api.Slot{{Stamp: 1}, {Stamp: 2, Ref: 4131, Live: true}, {Stamp: 3, Ref: 4138, Live: true}}
		x.Locals.Issued = []int{0, 1, 2}
		x.Weaks.Entries = []api.Entry{envtest.Live(1, 0), envtest.Live(2, 4128), envtest.Dead(1), envtest.Live(1, 0)}
	})
	done(t, x, request{boundary.Same, envtest.Word(api.Weak, 0, 1), 0, 0}, 1) // its object is gone
	done(t, x, request{boundary.GetWord, envtest.Word(api.Local, 1, 2), 2, 0}, 3)
}

// 19.1: Length and Kind of the object of each handle.
func TestDescribe(t *testing.T) {
	for w, want := range map[uint64][2]uint64{
		local4106: {3, api.Refs}, again4106: {3, api.Refs}, local4179: {1, api.Refs}, local4112: {19, api.Refs}, global4147: {2, api.Words},
		global4104: {0, api.Refs}, weak4105: {0, api.Record}, weak4096: {3, api.Record}, weak4102: {1, api.Words}, weak4112: {19, api.Refs},
	} {
		becomes(t, envtest.Ordinary(), request{boundary.Length, w, huge, huge}, want[0], nothing)
		becomes(t, envtest.Ordinary(), request{boundary.Kind, w, huge, huge}, want[1], nothing)
	}
}

// 19.1: words of objects, the first and the last one, pinned or not.
func TestWords(t *testing.T) {
	x := envtest.Ordinary()
	for _, y := range []struct{ h, i, at, v uint64 }{
		{weak4096, 1, 2, 4102}, {weak4102, 0, 7, 4096}, {global4147, 0, 52, 5}, {global4147, 1, 53, huge},
	} {
		becomes(t, x, request{boundary.GetWord, y.h, y.i, huge}, y.v, nothing)
		for _, v := range []uint64{0, 1, 4096, local4106, huge} {
			out := becomes(t, x, request{boundary.SetWord, y.h, y.i, v}, 0, func(x *api.Env) { x.Heap.Words[y.at] = v })
			done(t, out, request{boundary.GetWord, y.h, y.i, 0}, v)
		}
	}
}

// 19.1: what references refer to, the first and the last one of an object. Null
// needs no handle.
func TestGetRef(t *testing.T) {
	for _, y := range []struct{ h, i, ref uint64 }{
		{weak4096, 0, 4102}, {weak4096, 2, 4096}, {local4106, 1, 4144}, {local4112, 0, 4096}, {weak4112, 1, 4112}, {local4112, 18, 4147}, {local4179, 0, 4176},
	} {
		becomes(t, roomy(), request{boundary.GetRef, y.h, y.i, huge}, next, adds(y.ref))
	}
	for _, x := range []api.Env{roomy(), envtest.Ordinary(), issuedAll(), closed()} {
		becomes(t, x, request{boundary.GetRef, weak4112, 2, 0}, 0, nothing)
		becomes(t, x, request{boundary.GetRef, weak4112, 17, 0}, 0, nothing)
	}
}

// issuedAll is roomy after as many local handles as there may be.
func issuedAll() api.Env {
	return envtest.Changed(roomy(), issuedBut(0))
}

// closed is envtest.Ordinary without local handles and scopes.
func closed() api.Env {
	return envtest.Changed(envtest.Ordinary(), func(x *api.Env) { x.Locals.Slots, x.Locals.Scopes = nil, nil })
}

// 19.1: a reference can become one to the object of any handle, or null.
func TestSetRef(t *testing.T) {
	for _, y := range []struct{ h, i, at uint64 }{
		{weak4096, 0, 1}, {weak4096, 2, 3}, {local4106, 0, 11}, {local4106, 2, 13}, {local4112, 18, 35}, {local4179, 0, 84},
	} {
		for w, ref := range map[uint64]uint64{
			0: 0, cleared: 0, local4106: 4106, local4179: 4179, local4112: 4112, global4147: 4147, global4104: 4104, weak4105: 4105, weak4096: 4096,
		} {
			becomes(t, envtest.Ordinary(), request{boundary.SetRef, y.h, y.i, w}, 0, func(x *api.Env) { x.Heap.Words[y.at] = ref })
		}
	}
	becomes(t, closed(), request{boundary.SetRef, weak4112, 18, global4104}, 0, func(x *api.Env) { x.Heap.Words[35] = 4104 })
}

// 19.1: handles of the same object, of different ones, and null.
func TestSame(t *testing.T) {
	l := []struct{ w, ref uint64 }{
		{0, 0}, {cleared, 0}, {local4106, 4106}, {again4106, 4106}, {local4112, 4112}, {weak4112, 4112},
		{weak4105, 4105}, {envtest.Word(api.Weak, 6, 5), 4105}, {global4104, 4104}, {global4147, 4147},
	}
	for _, y := range l {
		for _, z := range l {
			want := uint64(0)
			if y.ref == z.ref {
				want = 1
			}
			becomes(t, envtest.Ordinary(), request{boundary.Same, y.w, z.w, huge}, want, nothing)
		}
	}
}

// 19.1: local handles are made and deleted.
func TestLocal(t *testing.T) {
	for w, ref := range map[uint64]uint64{local4106: 4106, local4112: 4112, global4147: 4147, weak4105: 4105} {
		out := becomes(t, roomy(), request{boundary.NewLocal, w, huge, huge}, next, adds(ref))
		out = becomes(t, out, request{boundary.DeleteLocal, next, huge, huge}, 0, func(x *api.Env) { x.Locals.Slots[5] = api.Slot{Stamp: 8} })
		refuses(t, out, request{boundary.DeleteLocal, next, 0, 0}, api.ErrDeleted)
	}
	for _, x := range []api.Env{roomy(), envtest.Ordinary(), issuedAll(), closed()} {
		becomes(t, x, request{boundary.NewLocal, 0, 0, 0}, 0, nothing)
		becomes(t, x, request{boundary.NewLocal, cleared, 0, 0}, 0, nothing)
	}
	// also those of other scopes
	becomes(t, envtest.Ordinary(), request{boundary.DeleteLocal, local4106, 0, 0}, 0, func(x *api.Env) { x.Locals.Slots[0] = api.Slot{Stamp: 1} })
}

// 19.1: global and weak handles are made and deleted. The first entry that can
// be used again is, and the tables are not mistaken for each other.
func TestTables(t *testing.T) {
	live, dead := envtest.Live, envtest.Dead
	x := becomes(t, envtest.Ordinary(), request{boundary.NewGlobal, weak4105, huge, huge}, envtest.Word(api.Global, 0, 5), func(x *api.Env) { x.Globals.Entries[0] = live(5, 4105) })
	x = becomes(t, x, request{boundary.NewGlobal, local4106, 0, 0}, envtest.Word(api.Global, 4, 1), func(x *api.Env) { x.Globals.Entries = append(x.Globals.Entries, live(1, 4106)) })
	x = becomes(t, x, request{boundary.NewWeak, global4147, huge, huge}, envtest.Word(api.Weak, 2, 2), func(x *api.Env) { x.Weaks.Entries[2] = live(2, 4147) })
	x = becomes(t, x, request{boundary.NewWeak, weak4112, 0, 0}, envtest.Word(api.Weak, 7, 1), func(x *api.Env) { x.Weaks.Entries = append(x.Weaks.Entries, live(1, 4112)) })
	x = becomes(t, x, request{boundary.DeleteGlobal, global4147, huge, huge}, 0, func(x *api.Env) { x.Globals.Entries[1] = dead(1) })
	x = becomes(t, x, request{boundary.DeleteWeak, weak4096, huge, huge}, 0, func(x *api.Env) { x.Weaks.Entries[1] = dead(2) })
	x = becomes(t, x, request{boundary.DeleteWeak, cleared, 0, 0}, 0, func(x *api.Env) { x.Weaks.Entries[3] = dead(3) })
	x = becomes(t, x, request{boundary.NewWeak, local4179, 0, 0}, envtest.Word(api.Weak, 1, 3), func(x *api.Env) { x.Weaks.Entries[1] = live(3, 4179) })
	refuses(t, x, request{boundary.Length, weak4096, 0, 0}, api.ErrDeleted)
	refuses(t, x, request{boundary.Length, global4147, 0, 0}, api.ErrDeleted)
}

// 19.1: scopes are opened and closed; a handle of what comes out of a scope is
// made in the one around it.
func TestScopes(t *testing.T) {
	for _, limit := range []int{0, 1, 64} {
		becomes(t, roomy(), request{boundary.PushScope, uint64(limit), huge, huge}, 0, func(x *api.Env) {
			x.Locals.Scopes = append(x.Locals.Scopes, api.Scope{From: 5, Cap: limit})
		})
	}
	for w, ref := range map[uint64]uint64{local4106: 4106, again4106: 4106, local4112: 4112, weak4105: 4105, global4104: 4104} {
		x := becomes(t, envtest.Ordinary(), request{boundary.PopScope, w, huge, huge}, envtest.Word(api.Local, 3, 8), func(x *api.Env) {
			x.Locals.Slots = append(x.Locals.Slots[:3], api.Slot{Stamp: 8, Ref: ref, Live: true})
			x.Locals.Scopes = x.Locals.Scopes[:2]
			x.Locals.Issued = append(x.Locals.Issued, 3)
		})
		refuses(t, x, request{boundary.Kind, again4106, 0, 0}, api.ErrStale)
		refuses(t, x, request{boundary.PopScope, local4106, 0, 0}, api.ErrScope)
	}
	for _, w := range []uint64{0, cleared} {
		for _, x := range []api.Env{roomy(), issuedAll()} {
			becomes(t, x, request{boundary.PopScope, w, 0, 0}, 0, func(x *api.Env) {
				x.Locals.Slots, x.Locals.Scopes = x.Locals.Slots[:3], x.Locals.Scopes[:2]
			})
		}
	}
}

// 19.1: objects are pinned and released as often, without a scope too. The
// address of an object without fields is that behind its header.
func TestCritical(t *testing.T) {
	x := closed()
	x = becomes(t, x, request{boundary.GetCritical, global4147, huge, huge}, 4148, func(x *api.Env) { x.Pins[0].Count, x.Heap.Pages[3].Pins = 3, 6 })
	x = becomes(t, x, request{boundary.GetCritical, weak4112, 0, 0}, 4113, func(x *api.Env) {
		x.Pins, x.Heap.Pages[1].Pins = append(x.Pins, api.Pin{Ref: 4112, Count: 1}), 1
	})
	x = becomes(t, x, request{boundary.GetCritical, global4104, 0, 0}, 4105, func(x *api.Env) {
		x.Pins, x.Heap.Pages[0].Pins = append(x.Pins, api.Pin{Ref: 4104, Count: 1}), 1
	})
	x = becomes(t, x, request{boundary.GetCritical, weak4096, 0, 0}, 4097, func(x *api.Env) {
		x.Pins, x.Heap.Pages[0].Pins = append(x.Pins, api.Pin{Ref: 4096, Count: 1}), 2
	})
	x = becomes(t, x, request{boundary.Release, weak4112, huge, huge}, 0, func(x *api.Env) {
		x.Pins, x.Heap.Pages[1].Pins = append(x.Pins[:3], x.Pins[4:]...), 0
	})
	for n := 2; n >= 0; n-- {
		x = becomes(t, x, request{boundary.Release, global4147, 0, 0}, 0, func(x *api.Env) {
			if x.Pins[0].Count, x.Heap.Pages[3].Pins = n, 3+n; n == 0 {
				x.Pins = x.Pins[1:]
			}
		})
	}
	refuses(t, x, request{boundary.Release, global4147, 0, 0}, api.ErrUnpinned)
}
