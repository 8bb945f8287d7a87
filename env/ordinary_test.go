package env_test

import (
	"semispace/api"
	"semispace/heaptest"
)

func live(gen int, ref uint64) api.Entry { return api.Entry{Gen: gen, Ref: ref, Live: true} }
func dead(gen int) api.Entry             { return api.Entry{Gen: gen} }

// locals are those of two frames, in the second of which a scope has been closed
// and one is open. Their handles, with the stamps 1 to 3, 6 and 7, have these
// Refs, unless they are deleted, as 2 is.
func locals(a, b, c, d uint64) api.Locals {
	return api.Locals{
		Slots: []api.Slot{
			{Stamp: 1, Ref: a, Live: true}, {Stamp: 2}, {Stamp: 3, Ref: b, Live: true}, {Stamp: 6, Ref: c, Live: true}, {Stamp: 7, Ref: d, Live: true},
		},
		Scopes: []api.Scope{{From: 0, Cap: 2, Base: true}, {From: 3, Cap: 5, Base: true}, {From: 3, Cap: 2}},
		Issued: []int{0, 1, 2, 3, 4, 3, 4},
	}
}

// ordinary is an environment with the heap of heaptest.Ordinary. All strong
// roots are different but for 4096 and 4106, which are each there twice; one is
// null. Of the objects, those at 4105 and 4102 are no strong roots, and nothing
// refers to the first one.
func ordinary() api.Env {
	pins := []api.Pin{{Ref: 4147, Count: 2}, {Ref: 4192, Count: 1}, {Ref: 4150, Count: 3}}
	return api.Env{
		Heap:    heaptest.WithPins(heaptest.Ordinary(0).Heap(), pins...),
		Locals:  locals(4106, 4179, 4112, 4106),
		Globals: api.Table{Entries: []api.Entry{dead(4), live(1, 4147), dead(maxGen), live(7, 4104)}},
		Weaks: api.Table{Entries: []api.Entry{
			live(1, 4105), live(2, 4096), dead(1), live(3, 0), live(maxGen, 4102), live(1, 4112), live(5, 4105),
		}},
		Pins:  pins,
		Roots: []uint64{4096, 0, 4144, 4096},
	}
}

// empty is an environment with an empty heap.
func empty() api.Env {
	return api.Env{Heap: api.Heap{Conf: heaptest.Conf, Words: make([]uint64, 128), Pages: make([]api.Page, 8), Bump: -1}}
}

// with is an environment with this heap and these roots.
func with(h api.Heap, roots ...uint64) api.Env { return api.Env{Heap: h, Roots: roots} }
