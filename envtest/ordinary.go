// Package envtest describes environments for the tests of other packages: an
// ordinary one, irregular ones, and others that are at a limit or not valid.
package envtest

import (
	"semispace/api"
	"semispace/heaptest"
)

// MaxGen is the last generation.
const MaxGen = 1<<32 - 1

// Word is the word of a handle.
func Word(tag, index, stamp int) uint64 {
	return uint64(tag) + uint64(index)<<2 + uint64(stamp)<<18
}

// Forged are words that are neither 0 nor those of a handle.
func Forged() []uint64 {
	return []uint64{
		4, 1 << 18, Word(0, 0, 1), Word(0, 1, 1), // without a tag
		1, 2, 3, Word(api.Local, 5, 0), Word(api.Weak, 65535, 0), // without a stamp
		Word(api.Local, 0, 1) + 1<<50, Word(api.Global, 1, 1) + 1<<50, Word(api.Weak, 0, 1) + 1<<63, 1 << 50, // with a bit too many
		4096, 4106, 1<<64 - 1,
	}
}

// Live is the entry of a handle of this generation.
func Live(gen int, ref uint64) api.Entry { return api.Entry{Gen: gen, Ref: ref, Live: true} }

// Dead is an entry whose handle of this generation has been deleted.
func Dead(gen int) api.Entry { return api.Entry{Gen: gen} }

// Locals are those of two frames, in the second of which a scope has been closed
// and one is open. Their handles, with the stamps 1 to 3, 6 and 7, have these
// Refs, unless they are deleted, as 2 is.
func Locals(a, b, c, d uint64) api.Locals {
	return api.Locals{
		Slots: []api.Slot{
			{Stamp: 1, Ref: a, Live: true}, {Stamp: 2}, {Stamp: 3, Ref: b, Live: true}, {Stamp: 6, Ref: c, Live: true}, {Stamp: 7, Ref: d, Live: true},
		},
		Scopes: []api.Scope{{From: 0, Cap: 2, Base: true}, {From: 3, Cap: 5, Base: true}, {From: 3, Cap: 2}},
		Issued: []int{0, 1, 2, 3, 4, 3, 4},
	}
}

// Ordinary is an environment with the heap of heaptest.Ordinary. All strong
// roots are different but for 4096 and 4106, which are each there twice; one is
// null. Of the objects, those at 4105 and 4102 are no strong roots, and nothing
// refers to the first one.
func Ordinary() api.Env {
	pins := []api.Pin{{Ref: 4147, Count: 2}, {Ref: 4192, Count: 1}, {Ref: 4150, Count: 3}}
	return api.Env{
		Heap:    heaptest.WithPins(heaptest.Ordinary(0).Heap(), pins...),
		Locals:  Locals(4106, 4179, 4112, 4106),
		Globals: api.Table{Entries: []api.Entry{Dead(4), Live(1, 4147), Dead(MaxGen), Live(7, 4104)}},
		Weaks: api.Table{Entries: []api.Entry{
			Live(1, 4105), Live(2, 4096), Dead(1), Live(3, 0), Live(MaxGen, 4102), Live(1, 4112), Live(5, 4105),
		}},
		Pins:  pins,
		Roots: []uint64{4096, 0, 4144, 4096},
	}
}

// Unusable are words that refer to nothing in Ordinary, and their errors.
func Unusable() map[uint64]api.Errno {
	m := map[uint64]api.Errno{
		Word(api.Local, 1, 2):  api.ErrDeleted,
		Word(api.Local, 3, 4):  api.ErrStale,
		Word(api.Local, 4, 5):  api.ErrStale,
		Word(api.Local, 5, 8):  api.ErrForged,
		Word(api.Global, 0, 4): api.ErrDeleted,
		Word(api.Global, 3, 6): api.ErrDeleted,
		Word(api.Global, 1, 2): api.ErrForged,
		Word(api.Weak, 1, 1):   api.ErrDeleted,
		Word(api.Weak, 2, 1):   api.ErrDeleted,
		Word(api.Weak, 64, 1):  api.ErrForged,
	}
	for _, w := range Forged() {
		m[w] = api.ErrForged
	}
	return m
}

// Empty is an environment with an empty heap.
func Empty() api.Env {
	return api.Env{Heap: api.Heap{Conf: heaptest.Conf, Words: make([]uint64, 128), Pages: make([]api.Page, 8), Bump: -1}}
}

// With is an environment with this heap and these roots.
func With(h api.Heap, roots ...uint64) api.Env { return api.Env{Heap: h, Roots: roots} }

// NarrowHeap is the heap of Narrow: as many pages are in use as may be, with the
// objects at 4096 and 4099 on page 0, and those at 4112, 4115, 4119 and 4123 on
// page 1. The first one refers to that at 4112. One word is free on page 1.
func NarrowHeap() api.Heap {
	return heaptest.Scene{Conf: heaptest.Conf, Things: []heaptest.Thing{
		heaptest.Refs(0, 3, 0), heaptest.Words(0, 5, 6, 7),
		heaptest.Words(1, 8, 9), heaptest.Words(1, 1, 2, 3), heaptest.Words(1, 4, 5, 6), heaptest.Words(1, 7, 8, 9),
	}}.Heap()
}

// Narrow is an environment with little room. Its strong roots are 4096, 0, 4115,
// 4112 and, without a pin, no others.
func Narrow() api.Env {
	return api.Env{
		Heap: NarrowHeap(),
		Locals: api.Locals{
			Slots:  []api.Slot{{Stamp: 1}, {Stamp: 2, Ref: 4115, Live: true}},
			Scopes: []api.Scope{{Cap: 1, Base: true}}, Issued: []int{0, 1},
		},
		Globals: api.Table{Entries: []api.Entry{Live(3, 4112)}},
		Weaks:   api.Table{Entries: []api.Entry{Live(1, 4119), Live(2, 4096), Dead(1), Live(1, 4123)}},
		Roots:   []uint64{4096, 0},
	}
}
