package envtest

import (
	"slices"

	"semispace/api"
	"semispace/audit"
	"semispace/heaptest"
)

// Referring are copies of Ordinary in which one root of each kind is this one.
func Referring(ref uint64) []api.Env {
	return Each(Ordinary(),
		func(x *api.Env) { x.Roots[0] = ref },
		func(x *api.Env) { x.Roots[3] = ref },
		func(x *api.Env) { x.Roots = append(x.Roots, ref) },
		func(x *api.Env) { x.Locals.Slots[0].Ref = ref },
		func(x *api.Env) { x.Locals.Slots[4].Ref = ref },
		func(x *api.Env) { x.Globals.Entries[1].Ref = ref },
		func(x *api.Env) { x.Globals.Entries[3].Ref = ref },
		func(x *api.Env) { x.Globals.Entries = append(x.Globals.Entries, Live(1, ref)) },
		func(x *api.Env) { x.Weaks.Entries[0].Ref = ref },
		func(x *api.Env) { x.Weaks.Entries[6].Ref = ref },
		func(x *api.Env) { x.Weaks.Entries[3].Ref = ref },
	)
}

// badHeaps are environments with a heap that is not good, with pins that would
// match otherwise, unless it is not good because of its Pins.
func badHeaps() []api.Env {
	var l []api.Env
	for _, h := range slices.Concat(heaptest.NotGood(), heaptest.NotProper()) {
		l = append(l, With(h), Changed(Ordinary(), func(x *api.Env) { x.Heap = h }))
		if !audit.Good(heaptest.WithPins(h)) {
			l = append(l, With(heaptest.WithPins(h)))
			l = append(l, Changed(Ordinary(), func(x *api.Env) { x.Heap = heaptest.WithPins(h, x.Pins...) }))
		}
	}
	crowd := api.Env{Pins: []api.Pin{{Ref: 4096, Count: 1}, {Ref: 4144, Count: 1}, {Ref: 4176, Count: 1}}}
	crowd.Heap = heaptest.WithPins(heaptest.Ordinary(0).Heap(), crowd.Pins...)
	return append(l, api.Env{}, crowd)
}

// badHandles are copies of Ordinary in which the locals or a table are not
// valid, or a global handle has no object.
func badHandles() []api.Env {
	return Each(Ordinary(),
		func(x *api.Env) { x.Locals.Slots[1].Ref = 4096 },
		func(x *api.Env) { x.Locals.Slots[2].Ref = 0 },
		func(x *api.Env) { x.Locals.Slots[2].Live = false },
		func(x *api.Env) { x.Locals.Issued[4] = 4096 },
		func(x *api.Env) { x.Locals.Issued = x.Locals.Issued[:6] },
		func(x *api.Env) { x.Locals.Issued = append(x.Locals.Issued, make([]int, 4090)...) },
		func(x *api.Env) { x.Locals.Scopes[0].Base = false },
		func(x *api.Env) { x.Locals.Scopes[0].Cap = 1 },
		func(x *api.Env) { x.Locals.Scopes[1].Cap = 65 },
		func(x *api.Env) { x.Locals.Scopes = nil },
		func(x *api.Env) { x.Locals.Scopes = append(x.Locals.Scopes, make([]api.Scope, 62)...) },
		func(x *api.Env) { x.Globals.Entries[0].Gen = 0 },
		func(x *api.Env) { x.Globals.Entries[1].Gen = MaxGen + 1 },
		func(x *api.Env) { x.Globals.Entries[1].Live = false },
		func(x *api.Env) { x.Globals.Entries[2].Ref = 4096 },
		func(x *api.Env) { x.Globals.Entries = slices.Repeat(x.Globals.Entries[1:2], 65) },
		func(x *api.Env) { x.Globals.Entries[1].Ref = 0 },
		func(x *api.Env) { x.Globals.Entries[3].Ref = 0 },
		func(x *api.Env) { x.Globals.Entries[0].Live = true },
		func(x *api.Env) { x.Weaks.Entries[0].Gen = 0 },
		func(x *api.Env) { x.Weaks.Entries[4].Gen = MaxGen + 1 },
		func(x *api.Env) { x.Weaks.Entries[1].Live = false },
		func(x *api.Env) { x.Weaks.Entries[2].Ref = 4096 },
		func(x *api.Env) { x.Weaks.Entries = slices.Repeat(x.Weaks.Entries[1:2], 65) },
	)
}

// badPins are copies of Ordinary with pins that do not match.
func badPins() []api.Env {
	return Each(Ordinary(),
		func(x *api.Env) { x.Pins = nil },
		func(x *api.Env) { x.Pins = x.Pins[:2] },
		func(x *api.Env) { x.Pins[0].Count++ },
		func(x *api.Env) { x.Pins[1].Count-- },
		func(x *api.Env) { x.Pins[0].Ref = 4096 },
		func(x *api.Env) { x.Pins[0].Ref = 0 },
		func(x *api.Env) { x.Pins[0].Ref = 4148 },
		func(x *api.Env) { x.Pins[0].Ref = 4150 },
		func(x *api.Env) { x.Pins[0].Count, x.Heap.Pages[3].Pins = 1001, 1004 },
		func(x *api.Env) { x.Heap.Pages[3].Pins++ },
		func(x *api.Env) { x.Heap.Pages[6].Pins-- },
		func(x *api.Env) { x.Heap.Pages[0].Pins++ },
		func(x *api.Env) { x.Pins = append(x.Pins, api.Pin{Ref: 4096}) },
	)
}

// badRefs are copies of Ordinary in which a root is no object.
func badRefs() []api.Env {
	var l []api.Env
	for _, ref := range heaptest.NoObjects() {
		l = append(l, Referring(ref)...)
	}
	return l
}

// Corrupt are environments that are not valid, most of them in one thing.
func Corrupt() []api.Env { return slices.Concat(badHeaps(), badHandles(), badPins(), badRefs()) }

// Allowed are environments that are valid at the last value that is allowed,
// or strange.
func Allowed() []api.Env {
	l := []api.Env{Empty(), With(Empty().Heap, 0), With(Empty().Heap, make([]uint64, 5000)...), Ordinary(), FullHouse()}
	for _, ref := range []uint64{4096, 4102, 4104, 4105, 4106, 4112, 4144, 4147, 4150, 4176, 4179, 4192} {
		l = append(l, Referring(ref)...)
	}
	return append(l, Each(Ordinary(),
		func(x *api.Env) { x.Roots = nil },
		func(x *api.Env) { x.Roots = slices.Repeat([]uint64{4112, 0}, 3000) },
		func(x *api.Env) { x.Locals = api.Locals{} },
		func(x *api.Env) { x.Locals = api.Locals{Issued: []int{4095, 0}} },
		func(x *api.Env) {
			x.Globals, x.Weaks = x.Weaks, x.Globals
			x.Weaks.Entries = nil
			x.Globals.Entries[3] = Dead(1)
		},
		func(x *api.Env) { x.Globals = api.Table{} },
		func(x *api.Env) { x.Globals.Entries = slices.Repeat([]api.Entry{Live(MaxGen, 4150)}, 64) },
		func(x *api.Env) { x.Weaks.Entries = slices.Repeat([]api.Entry{Live(MaxGen, 0)}, 64) },
		func(x *api.Env) { x.Weaks.Entries[0].Ref = 0 },
		func(x *api.Env) { x.Pins, x.Heap = nil, heaptest.WithPins(x.Heap) },
		func(x *api.Env) { x.Pins[1].Count, x.Heap.Pages[6].Pins = 1000, 1000 },
		func(x *api.Env) { slices.Reverse(x.Pins) },
	)...)
}

// FullHouse has as many objects in a list, pins, handles and stamps as there may
// be. Its last object is not pinned.
func FullHouse() api.Env {
	s := heaptest.List(65, true)
	at := s.Addresses()
	x := api.Env{Heap: s.Heap()}
	for k, ref := range at[:64] {
		x.Pins = append(x.Pins, api.Pin{Ref: ref, Count: 1000})
		x.Globals.Entries = append(x.Globals.Entries, Live(MaxGen, at[63-k]))
		x.Weaks.Entries = append(x.Weaks.Entries, Live(MaxGen, at[64-k]))
		x.Locals.Scopes = append(x.Locals.Scopes, api.Scope{From: 64 * k, Cap: 64, Base: k%3 == 0})
	}
	for i := range 4096 {
		x.Locals.Slots = append(x.Locals.Slots, api.Slot{Stamp: i + 1, Ref: at[i%64], Live: true})
		x.Locals.Issued = append(x.Locals.Issued, i)
	}
	x.Heap = heaptest.WithPins(x.Heap, x.Pins...)
	return x
}
