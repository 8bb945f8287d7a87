package env_test

import (
	"slices"
	"testing"

	"semispace/api"
	"semispace/audit"
	"semispace/heaptest"
	"semispace/pin"
	"semispace/scope"
	"semispace/slots"
	"semispace/walk"
)

// each returns a copy of an environment for each of these functions, which
// changes it.
func each(x api.Env, changes ...func(x *api.Env)) []api.Env {
	l := make([]api.Env, len(changes))
	for k, change := range changes {
		l[k] = changed(x, change)
	}
	return l
}

// referring are copies of ordinary in which one root of each kind is this one.
func referring(ref uint64) []api.Env {
	return each(ordinary(),
		func(x *api.Env) { x.Roots[0] = ref },
		func(x *api.Env) { x.Roots[3] = ref },
		func(x *api.Env) { x.Roots = append(x.Roots, ref) },
		func(x *api.Env) { x.Locals.Slots[0].Ref = ref },
		func(x *api.Env) { x.Locals.Slots[4].Ref = ref },
		func(x *api.Env) { x.Globals.Entries[1].Ref = ref },
		func(x *api.Env) { x.Globals.Entries[3].Ref = ref },
		func(x *api.Env) { x.Globals.Entries = append(x.Globals.Entries, live(1, ref)) },
		func(x *api.Env) { x.Weaks.Entries[0].Ref = ref },
		func(x *api.Env) { x.Weaks.Entries[6].Ref = ref },
		func(x *api.Env) { x.Weaks.Entries[3].Ref = ref },
	)
}

// badHeaps are environments with a heap that is not good, with pins that would
// match otherwise, unless it is not good because of its Pins.
func badHeaps() []api.Env {
	var l []api.Env
	for _, h := range slices.Concat(heaptest.NotGood(), heaptest.NotProper()) {
		l = append(l, with(h), changed(ordinary(), func(x *api.Env) { x.Heap = h }))
		if !audit.Good(heaptest.WithPins(h)) {
			l = append(l, with(heaptest.WithPins(h)))
			l = append(l, changed(ordinary(), func(x *api.Env) { x.Heap = heaptest.WithPins(h, x.Pins...) }))
		}
	}
	crowd := api.Env{Pins: []api.Pin{{Ref: 4096, Count: 1}, {Ref: 4144, Count: 1}, {Ref: 4176, Count: 1}}}
	crowd.Heap = heaptest.WithPins(heaptest.Ordinary(0).Heap(), crowd.Pins...)
	return append(l, api.Env{}, crowd)
}

// badHandles are copies of ordinary in which the locals or a table are not
// valid, or a global handle has no object.
func badHandles() []api.Env {
	return each(ordinary(),
		func(x *api.Env) { x.Locals.Slots[1].Ref = 4096 },
		func(x *api.Env) { x.Locals.Slots[2].Ref = 0 },
		func(x *api.Env) { x.Locals.Slots[2].Live = false },
		func(x *api.Env) { x.Locals.Issued[4] = 4096 },
		func(x *api.Env) { x.Locals.Issued = x.Locals.Issued[:6] },
		func(x *api.Env) { x.Locals.Issued = append(x.Locals.Issued, make([]int, 4090)...) },
		func(x *api.Env) { x.Locals.Scopes[0].Base = false },
		func(x *api.Env) { x.Locals.Scopes[0].Cap = 1 },
		func(x *api.Env) { x.Locals.Scopes[1].Cap = 65 },
		func(x *api.Env) { x.Locals.Scopes = nil },
		func(x *api.Env) { x.Locals.Scopes = append(x.Locals.Scopes, make([]api.Scope, 62)...) },
		func(x *api.Env) { x.Globals.Entries[0].Gen = 0 },
		func(x *api.Env) { x.Globals.Entries[1].Gen = maxGen + 1 },
		func(x *api.Env) { x.Globals.Entries[1].Live = false },
		func(x *api.Env) { x.Globals.Entries[2].Ref = 4096 },
		func(x *api.Env) { x.Globals.Entries = slices.Repeat(x.Globals.Entries[1:2], 65) },
		func(x *api.Env) { x.Globals.Entries[1].Ref = 0 },
		func(x *api.Env) { x.Globals.Entries[3].Ref = 0 },
		func(x *api.Env) { x.Globals.Entries[0].Live = true },
		func(x *api.Env) { x.Weaks.Entries[0].Gen = 0 },
		func(x *api.Env) { x.Weaks.Entries[4].Gen = maxGen + 1 },
		func(x *api.Env) { x.Weaks.Entries[1].Live = false },
		func(x *api.Env) { x.Weaks.Entries[2].Ref = 4096 },
		func(x *api.Env) { x.Weaks.Entries = slices.Repeat(x.Weaks.Entries[1:2], 65) },
	)
}

// badPins are copies of ordinary with pins that do not match.
func badPins() []api.Env {
	return each(ordinary(),
		func(x *api.Env) { x.Pins = nil },
		func(x *api.Env) { x.Pins = x.Pins[:2] },
		func(x *api.Env) { x.Pins[0].Count++ },
		func(x *api.Env) { x.Pins[1].Count-- },
		func(x *api.Env) { x.Pins[0].Ref = 4096 },
		func(x *api.Env) { x.Pins[0].Ref = 0 },
		func(x *api.Env) { x.Pins[0].Ref = 4148 },
		func(x *api.Env) { x.Pins[0].Ref = 4150 },
		func(x *api.Env) { x.Pins[0].Count, x.Heap.Pages[3].Pins = 1001, 1004 },
		func(x *api.Env) { x.Heap.Pages[3].Pins++ },
		func(x *api.Env) { x.Heap.Pages[6].Pins-- },
		func(x *api.Env) { x.Heap.Pages[0].Pins++ },
		func(x *api.Env) { x.Pins = append(x.Pins, api.Pin{Ref: 4096}) },
	)
}

// badRefs are copies of ordinary in which a root is no object.
func badRefs() []api.Env {
	var l []api.Env
	for _, ref := range heaptest.NoObjects() {
		l = append(l, referring(ref)...)
	}
	return l
}

// corrupt are environments that are not valid, most of them in one thing.
func corrupt() []api.Env { return slices.Concat(badHeaps(), badHandles(), badPins(), badRefs()) }

// 18.2: each condition.
func TestValidConditions(t *testing.T) {
	for k, x := range corrupt() {
		if valid(t, x) {
			t.Errorf("%d is valid: %s", k, show(x))
		}
	}
}

// alsoValid are environments that are valid at the last value that is allowed,
// or strange.
func alsoValid() []api.Env {
	l := []api.Env{empty(), with(empty().Heap, 0), with(empty().Heap, make([]uint64, 5000)...), ordinary(), fullHouse()}
	for _, ref := range []uint64{4096, 4102, 4104, 4105, 4106, 4112, 4144, 4147, 4150, 4176, 4179, 4192} {
		l = append(l, referring(ref)...)
	}
	return append(l, each(ordinary(),
		func(x *api.Env) { x.Roots = nil },
		func(x *api.Env) { x.Roots = slices.Repeat([]uint64{4112, 0}, 3000) },
		func(x *api.Env) { x.Locals = api.Locals{} },
		func(x *api.Env) { x.Locals = api.Locals{Issued: []int{4095, 0}} },
		func(x *api.Env) {
			x.Globals, x.Weaks = x.Weaks, x.Globals
			x.Weaks.Entries = nil
			x.Globals.Entries[3] = dead(1)
		},
		func(x *api.Env) { x.Globals = api.Table{} },
		func(x *api.Env) { x.Globals.Entries = slices.Repeat([]api.Entry{live(maxGen, 4150)}, 64) },
		func(x *api.Env) { x.Weaks.Entries = slices.Repeat([]api.Entry{live(maxGen, 0)}, 64) },
		func(x *api.Env) { x.Weaks.Entries[0].Ref = 0 },
		func(x *api.Env) { x.Pins, x.Heap = nil, heaptest.WithPins(x.Heap) },
		func(x *api.Env) { x.Pins[1].Count, x.Heap.Pages[6].Pins = 1000, 1000 },
		func(x *api.Env) { slices.Reverse(x.Pins) },
	)...)
}

// fullHouse has as many objects in a list, pins, handles and stamps as there may
// be. Its last object is not pinned.
func fullHouse() api.Env {
	s := heaptest.List(65, true)
	at := s.Addresses()
	x := api.Env{Heap: s.Heap()}
	for k, ref := range at[:64] {
		x.Pins = append(x.Pins, api.Pin{Ref: ref, Count: 1000})
		x.Globals.Entries = append(x.Globals.Entries, live(maxGen, at[63-k]))
		x.Weaks.Entries = append(x.Weaks.Entries, live(maxGen, at[64-k]))
		x.Locals.Scopes = append(x.Locals.Scopes, api.Scope{From: 64 * k, Cap: 64, Base: k%3 == 0})
	}
	for i := range 4096 {
		x.Locals.Slots = append(x.Locals.Slots, api.Slot{Stamp: i + 1, Ref: at[i%64], Live: true})
		x.Locals.Issued = append(x.Locals.Issued, i)
	}
	x.Heap = heaptest.WithPins(x.Heap, x.Pins...)
	return x
}

// 18.2: environments that are valid.
func TestValid(t *testing.T) {
	for k, x := range alsoValid() {
		if !valid(t, x) {
			t.Errorf("%d is not valid: %s", k, show(x))
		}
	}
}

// isValid is Valid, from the words of 18.2.
func isValid(x api.Env) bool {
	if !audit.Good(x.Heap) || !scope.Valid(x.Locals) || !slots.Valid(x.Globals) || !slots.Valid(x.Weaks) || !pin.Match(x.Heap, x.Pins) {
		return false
	}
	refs := slices.Clone(x.Roots)
	for _, s := range x.Locals.Slots {
		refs = append(refs, s.Ref)
	}
	for _, y := range x.Globals.Entries {
		if y.Live && y.Ref == 0 {
			return false
		}
		refs = append(refs, y.Ref)
	}
	for _, y := range x.Weaks.Entries {
		refs = append(refs, y.Ref)
	}
	for _, ref := range refs {
		if ref != 0 && !walk.IsObject(x.Heap, ref) {
			return false
		}
	}
	return true
}

// 18.2: irregular environments, valid and spoiled.
func TestValidIrregular(t *testing.T) {
	results := map[bool]int{}
	for seed := range 2000 {
		x := heaptest.Numbers(seed + 1)
		y := irregular(&x)
		for range x.Below(3) {
			spoil(&x, &y)
		}
		ok := valid(t, y)
		results[ok]++
		if ok != isValid(y) {
			t.Fatalf("seed %d: Valid is %v for %s", seed, ok, show(y))
		}
	}
	if min(results[true], results[false]) < 500 {
		t.Errorf("hardly any of one kind: %v", results)
	}
}
