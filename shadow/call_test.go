package shadow_test

import (
	"testing"

	"semispace/api"
	"semispace/boundary"
	"semispace/envtest"
	"semispace/heaptest"
	"semispace/rules"
	"semispace/shadow"
	"semispace/worldtest"
)

// next is the next local handle that worldtest.Ordinary issues.
var next = envtest.Word(api.Local, 5, 8)

// adds appends a slot, that of next.
func adds(w *rules.World, id uint64) {
	w.Locals.Slots = append(w.Locals.Slots, api.Slot{Stamp: 8, Ref: id, Live: true})
	w.Locals.Issued = append(w.Locals.Issued, 5)
}

// ask is a call with these arguments. The others, and what the fact says, must
// not matter to it.
func ask(op int, arguments ...uint64) request {
	l := [3]uint64{huge, huge, huge}
	copy(l[:], arguments)
	return request{op, l[0], l[1], l[2], shadow.Fact{Collected: true, Base: 4100}}
}

// creations are calls for new things, and the things.
func creations() map[request]rules.Thing {
	return map[request]rules.Thing{
		{op: boundary.NewRecord, a: 3, b: 5}:                     worldtest.Record(5, 0, 0, 0),
		{op: boundary.NewRecord, a: 0, b: 0, c: 9}:               worldtest.Record(0),
		{op: boundary.NewRecord, a: 32, b: 1<<32 - 1, c: huge}:   worldtest.Record(1<<32-1, make([]uint64, 32)...),
		{op: boundary.NewRefs, a: 2, b: 3, c: 9}:                 worldtest.Refs(0, 0),
		{op: boundary.NewRefs, a: 0, b: huge, c: huge}:           worldtest.Refs(),
		{op: boundary.NewRefs, a: 255, b: 1}:                     worldtest.Refs(make([]uint64, 255)...),
		{op: boundary.NewWords, a: 3, b: 1 << 32, c: 9}:          worldtest.Words(0, 0, 0),
		{op: boundary.NewWords, fact: shadow.Fact{Base: 4097}}:   worldtest.Words(),
		{op: boundary.NewWords, a: 255, b: 1, c: local(6)}:       worldtest.Words(make([]uint64, 255)...),
		{op: boundary.NewRefs, a: 1, fact: shadow.Fact{Base: 1}}: worldtest.Refs(0),
	}
}

// 21.2: a new object is a thing behind all others, with fields 0; the handle is
// that of the next stamp. Whether there is a collection before it is for the
// fact to say.
func TestCreate(t *testing.T) {
	w := worldtest.Changed(unmarked(), func(w *rules.World) { w.Conf = heaptest.Wide })
	empty := rules.World{Conf: heaptest.Wide, Locals: api.Locals{Scopes: []api.Scope{{Cap: 1, Base: true}}}}
	for r, y := range creations() {
		becomes(t, w, r, next, func(w *rules.World) {
			w.Things = append(w.Things, y)
			adds(w, 14)
		})
		becomes(t, empty, r, envtest.Word(api.Local, 0, 1), func(w *rules.World) {
			w.Things = []rules.Thing{y}
			w.Locals.Slots, w.Locals.Issued = []api.Slot{{Stamp: 1, Ref: 1, Live: true}}, []int{0}
		})
		r.fact.Collected = true
		becomes(t, w, r, next, func(w *rules.World) {
			w.Weaks.Entries[0].Ref, w.Weaks.Entries[6].Ref = 0, 0 // those of 5
			w.Things = append(w.Things, y)
			adds(w, 14)
		})
	}
}

// 21.2: one thing after the other, of which a weak handle alone keeps none. What
// was cleared stays cleared, and what is gone stays a thing.
func TestCreateMany(t *testing.T) {
	w := rules.World{Conf: heaptest.Conf, Locals: api.Locals{Scopes: []api.Scope{{Cap: 64, Base: true}}}}
	for k := range uint64(40) {
		r := request{op: boundary.NewWords, a: k, fact: shadow.Fact{Collected: k%4 == 3}}
		h := envtest.Word(api.Local, int(k), int(k)+1)
		w = becomes(t, w, r, h, func(w *rules.World) {
			for i := range w.Weaks.Entries {
				if k%4 == 3 && i%2 == 0 { // whose local handles are deleted
					w.Weaks.Entries[i].Ref = 0
				}
			}
			w.Things = append(w.Things, worldtest.Words(make([]uint64, k)...))
			w.Locals.Slots = append(w.Locals.Slots, api.Slot{Stamp: int(k) + 1, Ref: k + 1, Live: true})
			w.Locals.Issued = append(w.Locals.Issued, int(k))
		})
		w = becomes(t, w, request{op: boundary.NewWeak, a: h}, envtest.Word(api.Weak, int(k), 1), func(w *rules.World) {
			w.Weaks.Entries = append(w.Weaks.Entries, envtest.Live(1, k+1))
		})
		if k%2 == 0 {
			w = becomes(t, w, request{op: boundary.DeleteLocal, a: h}, 0, func(w *rules.World) { w.Locals.Slots[k] = api.Slot{Stamp: int(k) + 1} })
		}
	}
}

// 21.2: Length and Kind of the thing of each handle.
func TestDescribe(t *testing.T) {
	for h, want := range map[uint64][2]uint64{
		local(6): {3, api.Refs}, local(12): {1, api.Refs}, local(7): {19, api.Refs}, global(9): {2, api.Words},
		global(4): {0, api.Refs}, weak(5): {0, api.Record}, weak(1): {3, api.Record}, weak(3): {1, api.Words}, weak(7): {19, api.Refs},
	} {
		becomes(t, worldtest.Ordinary(), ask(boundary.Length, h), want[0], nothing)
		becomes(t, worldtest.Ordinary(), ask(boundary.Kind, h), want[1], nothing)
	}
}

// 21.2: words of things, the first and the last one, pinned or not. Any word can
// be written, also one that looks like an identity.
func TestWords(t *testing.T) {
	for _, y := range []struct{ h, id, i, v uint64 }{
		{weak(1), 1, 1, 4102}, {weak(3), 3, 0, 4096}, {global(9), 9, 0, 5}, {global(9), 9, 1, huge},
	} {
		becomes(t, worldtest.Ordinary(), ask(boundary.GetWord, y.h, y.i), y.v, nothing)
		for _, v := range []uint64{0, 1, 5, 14, 4096, local(6), huge} {
			w := becomes(t, worldtest.Ordinary(), ask(boundary.SetWord, y.h, y.i, v), 0, func(w *rules.World) { w.Things[y.id-1].Fields[y.i] = v })
			becomes(t, w, ask(boundary.GetWord, y.h, y.i), v, nothing)
		}
	}
}

// 21.2: what references refer to, the first and the last one of a thing. Null
// needs no handle, and no scope.
func TestGetRef(t *testing.T) {
	for _, y := range []struct{ h, i, id uint64 }{
		{weak(1), 0, 3}, {weak(1), 2, 1}, {local(6), 1, 8}, {local(7), 0, 1}, {weak(7), 1, 7}, {local(7), 18, 9}, {local(12), 0, 11},
	} {
		becomes(t, roomy(), ask(boundary.GetRef, y.h, y.i), next, func(w *rules.World) { adds(w, y.id) })
	}
	for _, w := range []rules.World{roomy(), worldtest.Ordinary(), outside()} {
		becomes(t, w, ask(boundary.GetRef, weak(7), 2), 0, nothing)
		becomes(t, w, ask(boundary.GetRef, weak(7), 17), 0, nothing)
	}
}

// 21.2: a reference can become one to the thing of any handle, or null.
func TestSetRef(t *testing.T) {
	for _, y := range []struct{ h, id, i uint64 }{{weak(1), 1, 0}, {weak(1), 1, 2}, {local(6), 6, 0}, {local(6), 6, 2}, {local(7), 7, 18}, {local(12), 12, 0}} {
		for h, id := range map[uint64]uint64{
			0: 0, weak(0): 0, local(6): 6, local(12): 12, local(7): 7, global(9): 9, global(4): 4, weak(5): 5, weak(1): 1,
		} {
			becomes(t, worldtest.Ordinary(), ask(boundary.SetRef, y.h, y.i, h), 0, func(w *rules.World) { w.Things[y.id-1].Fields[y.i] = id })
		}
	}
	becomes(t, outside(), ask(boundary.SetRef, weak(7), 18, global(4)), 0, func(w *rules.World) { w.Things[6].Fields[18] = 4 })
}

// 21.2: handles of the same thing, of different ones, and null.
func TestSame(t *testing.T) {
	l := []struct{ h, id uint64 }{
		{0, 0}, {weak(0), 0}, {local(6), 6}, {envtest.Word(api.Local, 4, 7), 6}, {local(7), 7}, {weak(7), 7},
		{weak(5), 5}, {envtest.Word(api.Weak, 6, 5), 5}, {global(4), 4}, {global(9), 9},
	}
	for _, y := range l {
		for _, z := range l {
			want := uint64(0)
			if y.id == z.id {
				want = 1
			}
			becomes(t, worldtest.Ordinary(), ask(boundary.Same, y.h, z.h), want, nothing)
		}
	}
}

// 21.2: local handles are made and deleted, also those of other scopes.
func TestLocal(t *testing.T) {
	for h, id := range map[uint64]uint64{local(6): 6, local(7): 7, global(9): 9, weak(5): 5} {
		w := becomes(t, roomy(), ask(boundary.NewLocal, h), next, func(w *rules.World) { adds(w, id) })
		becomes(t, w, ask(boundary.DeleteLocal, next), 0, func(w *rules.World) { w.Locals.Slots[5] = api.Slot{Stamp: 8} })
	}
	for _, w := range []rules.World{roomy(), worldtest.Ordinary(), outside()} {
		becomes(t, w, ask(boundary.NewLocal, 0), 0, nothing)
		becomes(t, w, ask(boundary.NewLocal, weak(0)), 0, nothing)
	}
	becomes(t, worldtest.Ordinary(), ask(boundary.DeleteLocal, local(6)), 0, func(w *rules.World) { w.Locals.Slots[0] = api.Slot{Stamp: 1} })
}

// 21.2: global and weak handles are made and deleted. The first entry that can
// be used again is, and the tables are not mistaken for each other.
func TestTables(t *testing.T) {
	live, dead := envtest.Live, envtest.Dead
	w := becomes(t, worldtest.Ordinary(), ask(boundary.NewGlobal, weak(5)), envtest.Word(api.Global, 0, 5), func(w *rules.World) { w.Globals.Entries[0] = live(5, 5) })
	w = becomes(t, w, ask(boundary.NewGlobal, local(6)), envtest.Word(api.Global, 4, 1), func(w *rules.World) { w.Globals.Entries = append(w.Globals.Entries, live(1, 6)) })
	w = becomes(t, w, ask(boundary.NewWeak, global(9)), envtest.Word(api.Weak, 2, 2), func(w *rules.World) { w.Weaks.Entries[2] = live(2, 9) })
	w = becomes(t, w, ask(boundary.NewWeak, weak(7)), envtest.Word(api.Weak, 7, 1), func(w *rules.World) { w.Weaks.Entries = append(w.Weaks.Entries, live(1, 7)) })
	w = becomes(t, w, ask(boundary.DeleteGlobal, global(9)), 0, func(w *rules.World) { w.Globals.Entries[1] = dead(1) })
	w = becomes(t, w, ask(boundary.DeleteWeak, weak(1)), 0, func(w *rules.World) { w.Weaks.Entries[1] = dead(2) })
	w = becomes(t, w, ask(boundary.DeleteWeak, weak(0)), 0, func(w *rules.World) { w.Weaks.Entries[3] = dead(3) })
	becomes(t, w, ask(boundary.NewWeak, local(12)), envtest.Word(api.Weak, 1, 3), func(w *rules.World) { w.Weaks.Entries[1] = live(3, 12) })
}

// 21.2: scopes are opened and closed; a handle of what comes out of a scope is
// made in the one around it.
func TestScopes(t *testing.T) {
	for _, limit := range []uint64{0, 1, 64} {
		becomes(t, roomy(), ask(boundary.PushScope, limit), 0, func(w *rules.World) {
			w.Locals.Scopes = append(w.Locals.Scopes, api.Scope{From: 5, Cap: int(limit)})
		})
	}
	for h, id := range map[uint64]uint64{local(6): 6, envtest.Word(api.Local, 4, 7): 6, local(7): 7, weak(5): 5, global(4): 4} {
		becomes(t, worldtest.Ordinary(), ask(boundary.PopScope, h), envtest.Word(api.Local, 3, 8), func(w *rules.World) {
			w.Locals.Slots = append(w.Locals.Slots[:3], api.Slot{Stamp: 8, Ref: id, Live: true})
			w.Locals.Scopes = w.Locals.Scopes[:2]
			w.Locals.Issued = append(w.Locals.Issued, 3)
		})
	}
	for _, h := range []uint64{0, weak(0)} {
		becomes(t, worldtest.Ordinary(), ask(boundary.PopScope, h), 0, func(w *rules.World) {
			w.Locals.Slots, w.Locals.Scopes = w.Locals.Slots[:3], w.Locals.Scopes[:2]
		})
	}
}

// pinned is GetCritical with this Base.
func pinned(h, base uint64) request {
	return request{op: boundary.GetCritical, a: h, b: huge, c: huge, fact: shadow.Fact{Collected: true, Base: base}}
}

// 21.2: things are pinned and released as often, without a scope too. The first
// time, a mark has the Base of the fact, whatever it is, and then its own.
func TestCritical(t *testing.T) {
	w := becomes(t, outside(), pinned(global(9), 77), 4148, func(w *rules.World) { w.Marks[0].Count = 3 })
	for id, base := range map[uint64]uint64{7: 4113, 1: 0, 5: huge, 3: 4148} {
		becomes(t, w, pinned(weak(id), base), base, func(w *rules.World) { w.Marks = append(w.Marks, rules.Mark{Id: id, Count: 1, Base: base}) })
	}
	w = becomes(t, w, pinned(weak(7), 4113), 4113, func(w *rules.World) { w.Marks = append(w.Marks, rules.Mark{Id: 7, Count: 1, Base: 4113}) })
	w = becomes(t, w, pinned(global(4), 0), 0, func(w *rules.World) { w.Marks = append(w.Marks, rules.Mark{Id: 4, Count: 1}) })
	w = becomes(t, w, pinned(weak(7), 4117), 4113, func(w *rules.World) { w.Marks[3].Count = 2 })
	w = becomes(t, w, pinned(global(4), 9), 0, func(w *rules.World) { w.Marks[4].Count = 2 })
	for n := 2; n >= 0; n-- {
		w = becomes(t, w, ask(boundary.Release, global(9)), 0, func(w *rules.World) {
			if w.Marks[0].Count = n; n == 0 {
				w.Marks = w.Marks[1:]
			}
		})
	}
	w = becomes(t, w, ask(boundary.Release, weak(7)), 0, func(w *rules.World) { w.Marks[2].Count = 1 })
	w = becomes(t, w, ask(boundary.Release, weak(7)), 0, func(w *rules.World) { w.Marks = append(w.Marks[:2], w.Marks[3:]...) })
	becomes(t, w, pinned(global(9), 78), 78, func(w *rules.World) { w.Marks = append(w.Marks, rules.Mark{Id: 9, Count: 1, Base: 78}) })
}
