package envtest

import (
	"slices"

	"semispace/api"
	"semispace/heaptest"
)

// Same reports whether two environments are equal.
func Same(x, y api.Env) bool {
	return heaptest.SameHeap(x.Heap, y.Heap) && slices.Equal(x.Roots, y.Roots) && slices.Equal(x.Pins, y.Pins) &&
		slices.Equal(x.Globals.Entries, y.Globals.Entries) && slices.Equal(x.Weaks.Entries, y.Weaks.Entries) &&
		slices.Equal(x.Locals.Slots, y.Locals.Slots) && slices.Equal(x.Locals.Scopes, y.Locals.Scopes) &&
		slices.Equal(x.Locals.Issued, y.Locals.Issued)
}

// Copied returns a copy of an environment.
func Copied(x api.Env) api.Env {
	x.Heap.Words, x.Heap.Pages = slices.Clone(x.Heap.Words), slices.Clone(x.Heap.Pages)
	x.Locals = api.Locals{Slots: slices.Clone(x.Locals.Slots), Scopes: slices.Clone(x.Locals.Scopes), Issued: slices.Clone(x.Locals.Issued)}
	x.Globals.Entries, x.Weaks.Entries = slices.Clone(x.Globals.Entries), slices.Clone(x.Weaks.Entries)
	x.Pins, x.Roots = slices.Clone(x.Pins), slices.Clone(x.Roots)
	return x
}

// Changed returns a copy of an environment that has been changed.
func Changed(x api.Env, change func(x *api.Env)) api.Env {
	x = Copied(x)
	change(&x)
	return x
}

// Each returns a copy of an environment for each of these functions, which
// changes it.
func Each(x api.Env, changes ...func(x *api.Env)) []api.Env {
	l := make([]api.Env, len(changes))
	for k, change := range changes {
		l[k] = Changed(x, change)
	}
	return l
}

// whole returns a copy of an environment with what is behind its slices.
func whole(x api.Env) api.Env {
	return api.Env{
		Heap: heaptest.WholeHeap(x.Heap),
		Locals: api.Locals{
			Slots: heaptest.Whole(x.Locals.Slots), Scopes: heaptest.Whole(x.Locals.Scopes), Issued: heaptest.Whole(x.Locals.Issued),
		},
		Globals: api.Table{Entries: heaptest.Whole(x.Globals.Entries)},
		Weaks:   api.Table{Entries: heaptest.Whole(x.Weaks.Entries)},
		Pins:    heaptest.Whole(x.Pins),
		Roots:   heaptest.Whole(x.Roots),
	}
}

// Guarded returns a copy of an environment with marks behind its slices, and a
// function that reports whether all of this is still as it was.
func Guarded(x api.Env) (api.Env, func() bool) {
	slot, scope, entry := api.Slot{Stamp: 77}, api.Scope{From: 77}, api.Entry{Gen: 77}
	x = api.Env{
		Heap: heaptest.RoomyHeap(x.Heap),
		Locals: api.Locals{
			Slots: heaptest.Roomy(x.Locals.Slots, slot), Scopes: heaptest.Roomy(x.Locals.Scopes, scope), Issued: heaptest.Roomy(x.Locals.Issued, 77),
		},
		Globals: api.Table{Entries: heaptest.Roomy(x.Globals.Entries, entry)},
		Weaks:   api.Table{Entries: heaptest.Roomy(x.Weaks.Entries, entry)},
		Pins:    heaptest.Roomy(x.Pins, api.Pin{Ref: 77}),
		Roots:   heaptest.Roomy(x.Roots, 77),
	}
	before := whole(x)
	return x, func() bool { return Same(whole(x), before) }
}

// Fill writes a value into a slice, and behind it.
func Fill[T any](l []T, v T) {
	l = l[:cap(l)]
	for k := range l {
		l[k] = v
	}
}

// Overwrite writes into the slices of an environment, and behind them. It
// reports whether no two of them share memory.
func Overwrite(x api.Env) bool {
	apart := heaptest.Overwrite(x.Heap, x.Roots)
	Fill(x.Locals.Slots, api.Slot{Stamp: 88})
	Fill(x.Locals.Scopes, api.Scope{From: 88})
	Fill(x.Locals.Issued, 88)
	Fill(x.Pins, api.Pin{Ref: 88})
	Fill(x.Globals.Entries, api.Entry{Gen: 88})
	Fill(x.Weaks.Entries, api.Entry{Gen: 99})
	return apart && !slices.Contains(x.Globals.Entries, api.Entry{Gen: 99})
}
